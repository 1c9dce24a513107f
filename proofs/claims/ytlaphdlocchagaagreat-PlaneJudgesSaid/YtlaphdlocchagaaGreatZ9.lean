/- Several texts in one: Wq, Wr. -/
import Derived.Test.YtlaphdlocchagaaGreatZ8
import Derived.Deep.LoopGhost
/- Finding a leap: the walk. -/
namespace Go.Proofs.YtlaphdlocchagaaGreat
open Go.RowKit

/-- A block with a leap in it, with a share in it. -/
def At5 (w : World) (B : Nat) (a1 b1 a2 b2 : Nat) (t : Bool) : Prop := w.heap[B]? = some (.cells #[.int .u64 a1, .int .u64 b1, .int .u64 a2, .int .u64 b2, .bool t] 142 (0, 0))
def At2 (w : World) (B : Nat) (a b : Nat) : Prop := w.heap[B]? = some (.cells #[.int .u64 a, .int .u64 b] 140 (0, 0))

theorem ileap : (Tryz.prog.info? 142).map (·.size) = some 5 := by kernel_rfl
theorem ishare : (Tryz.prog.info? 140).map (·.size) = some 2 := by kernel_rfl
theorem leap_one {a1 b1 a2 b2 : Nat} {t : Bool} : ∀ v ∈ (#[.int .u64 a1, .int .u64 b1, .int .u64 a2, .int .u64 b2, .bool t] : Array Value).toList, v.oneCell' = true := by
  intro v hv; simp at hv; rcases hv with rfl | rfl | rfl | rfl | rfl <;> rfl
theorem share_one {a b : Nat} : ∀ v ∈ (#[.int .u64 a, .int .u64 b] : Array Value).toList, v.oneCell' = true := by
  intro v hv; simp at hv; rcases hv with rfl | rfl <;> rfl

theorem At5.alloc {w : World} {B a1 b1 a2 b2 : Nat} {t : Bool} (h : At5 w B a1 b1 a2 b2 t) (o : Obj) : At5 (w.alloc o) B a1 b1 a2 b2 t := by
  unfold At5; rw [Below.heap_alloc _ _ _ (lt_of_block h)]; exact h
theorem At2.alloc {w : World} {B a b : Nat} (h : At2 w B a b) (o : Obj) : At2 (w.alloc o) B a b := by
  unfold At2; rw [Below.heap_alloc _ _ _ (lt_of_block h)]; exact h
theorem At5.only {w w' : World} {B C a1 b1 a2 b2 : Nat} {t : Bool} (h : At5 w B a1 b1 a2 b2 t) (ho : Only C w w') (hne : B ≠ C) : At5 w' B a1 b1 a2 b2 t := by
  unfold At5; rw [ho.block B hne]; exact h
theorem At2.only {w w' : World} {B C a b : Nat} (h : At2 w B a b) (ho : Only C w w') (hne : B ≠ C) : At2 w' B a b := by
  unfold At2; rw [ho.block B hne]; exact h
theorem At5.cells {w : World} {B a1 b1 a2 b2 : Nat} {t : Bool} (h : At5 w B a1 b1 a2 b2 t) :
    w.cell? ⟨B, 0, none⟩ = some (.int .u64 a1) ∧ w.cell? ⟨B, 1, none⟩ = some (.int .u64 b1) ∧ w.cell? ⟨B, 2, none⟩ = some (.int .u64 a2) ∧ w.cell? ⟨B, 3, none⟩ = some (.int .u64 b2) ∧ w.cell? ⟨B, 4, none⟩ = some (.bool t) := by
  have h' : w.heap[B]? = some (.cells #[.int .u64 a1, .int .u64 b1, .int .u64 a2, .int .u64 b2, .bool t] 142 (0, 0)) := h
  simp [World.cell?, h']
theorem At5.free {w : World} {B a1 b1 a2 b2 : Nat} {t : Bool} (h : At5 w B a1 b1 a2 b2 t) (j : Nat) : w.frozen? ⟨B, j, none⟩ = false := by
  have h' : w.heap[B]? = some (.cells #[.int .u64 a1, .int .u64 b1, .int .u64 a2, .int .u64 b2, .bool t] 142 (0, 0)) := h
  simp [World.frozen?, h']
theorem At2.cells {w : World} {B a b : Nat} (h : At2 w B a b) : w.cell? ⟨B, 0, none⟩ = some (.int .u64 a) ∧ w.cell? ⟨B, 1, none⟩ = some (.int .u64 b) := by
  have h' : w.heap[B]? = some (.cells #[.int .u64 a, .int .u64 b] 140 (0, 0)) := h
  simp [World.cell?, h']
theorem At2.free {w : World} {B a b : Nat} (h : At2 w B a b) (j : Nat) : w.frozen? ⟨B, j, none⟩ = false := by
  have h' : w.heap[B]? = some (.cells #[.int .u64 a, .int .u64 b] 140 (0, 0)) := h
  simp [World.frozen?, h']

def mulN (q a : Nat) : Nat := q * a
def maN (c q a : Nat) : Nat := c + q * a
theorem mulN_wrap {c q a : Nat} (h : maN c q a < 18446744073709551616) : IntKind.u64.wrap ((q : Int) * (a : Int)) = (mulN q a : Int) := by
  have e : (q : Int) * (a : Int) = (mulN q a : Int) := by unfold mulN; simp
  rw [e]; unfold maN at h; unfold mulN; exact IntWalk.u64_in _ (by omega)
theorem maN_wrap {c q a : Nat} (h : maN c q a < 18446744073709551616) : IntKind.u64.wrap ((c : Int) + (mulN q a : Int)) = (maN c q a : Int) := by
  have e : (c : Int) + (mulN q a : Int) = (maN c q a : Int) := by unfold mulN maN; simp
  rw [e]; exact IntWalk.u64_in _ (by omega)

/-- What findLeap gives. -/
def LeapPost (w : World) (a b : Nat) (e : Ending) (w' : World) : Prop :=
  (∃ (a1 b1 a2 b2 : Nat) (t : Bool), e = .returned (leapV a1 b1 a2 b2 t) ∧ (b1 ≠ 0 → LeapOk a b a1 b1 a2 b2 t)) ∧ Below w.heap.size w w'

theorem top_le {l m : List Nat} {n : Nat} (hl : l.length = n) (hm : m.length ≤ n) (hn : 0 < n) (hw : Ws l) (hle : val m ≤ val l) : nth m (n - 1) ≤ nth l (n - 1) := by
  have e1 : val l = pv l 0 (n - 1) + 4294967296 ^ (n - 1) * nth l (n - 1) := by
    have := pv_succ l 0 (n - 1)
    rwa [Nat.sub_add_cancel hn, Nat.zero_add, pv_eq_val hl] at this
  have e2 : val m = pv m 0 (n - 1) + 4294967296 ^ (n - 1) * nth m (n - 1) := by
    have := pv_succ m 0 (n - 1)
    rwa [Nat.sub_add_cancel hn, Nat.zero_add, pv_all hm] at this
  have h1 := pv_lt hw 0 (n - 1)
  apply Nat.le_of_lt_succ
  apply Nat.lt_of_mul_lt_mul_left (a := 4294967296 ^ (n - 1))
  rw [Nat.mul_succ]
  omega

/-- The heads of two numbers: where a leap begins. -/
theorem heads_start {l m : List Nat} {x y n s : Nat} (hx : l = digs x) (hy : m = digs y) (hn : l.length = n) (hm : m.length ≤ n) (h3 : 3 ≤ n) (hs : s < 32) (hle : y ≤ x) (htop : nth l (n - 1) * 2 ^ s < 4294967296) :
    nth m (n - 1) * 2 ^ s < 4294967296 ∧ headN l n s < 18446744073709551616 ∧ headN m n s < 18446744073709551616 ∧ headN m n s ≤ headN l n s ∧ ∃ D a' b', x = headN l n s * D + a' ∧ y = headN m n s * D + b' ∧ a' < D ∧ b' < D := by
  have hl : Ws l := by rw [hx]; exact ws_digs _
  have hmw : Ws m := by rw [hy]; exact ws_digs _
  have vl : val l = x := by rw [hx, val_digs]
  have vm : val m = y := by rw [hy, val_digs]
  have ht := top_le hn hm (by omega) hl (by omega)
  have htm : nth m (n - 1) * 2 ^ s < 4294967296 := Nat.lt_of_le_of_lt (Nat.mul_le_mul_right _ ht) htop
  obtain ⟨a', ha, haD⟩ := headN_val hl hs h3 (by omega)
  obtain ⟨b', hb, hbD⟩ := headN_val hmw hs h3 hm
  rw [vl] at ha
  rw [vm] at hb
  exact ⟨htm, (headN_parts hl hs htop).2.2.2, (headN_parts hmw hs htm).2.2.2, heads_le ha hb haD hle, _, a', b', ha, hb, haD, hbD⟩

set_option maxRecDepth 100000 in
set_option maxHeartbeats 1000000 in
theorem findLeap_c {w : World} {u v : Value} {l m : List Nat} {x y : Nat} (hx : l = digs x) (hy : m = digs y) (hu : IsW w u l) (hv : IsW w v m) (h3 : 3 ≤ m.length) (hle : y ≤ x) :
    Calls Tryz.prog 144 #[u, v] w (LeapPost w x y) := by
  have HX := Lib.hid hx
  have HY := Lib.hid hy
  have HU := Lib.hid hu
  have HV := Lib.hid hv
  have hml : m.length ≤ l.length := by rw [hx, hy]; exact len_digs_mono hle
  have hl2 := hu.len
  have HLE := Lib.hid hle
  have htop : nth l (l.length - 1) ≠ 0 := nth_last (by rw [hx]; exact norm_digs _) (by intro e; rw [e] at hml; simp at hml; subst hml; simp at h3)
  have HT := Lib.hid htop
  obtain ⟨a, cap, rfl, i1, i2, i3, i4, i5⟩ := hu
  clear i3 i4 i5 hx hy htop hv hle
  go_enter Tryz.func144, Tryz.ntmps144
  go_wp2_with fail
  have HB0 : Hid (Below w.heap.size w (w.alloc (Obj.cells #[Value.int IntKind.u64 0, Value.int IntKind.u64 0, Value.int IntKind.u64 0, Value.int IntKind.u64 0, Value.bool false] 142))) := Lib.hid ((Below.refl _ _).alloc (Nat.le_refl _) _)
  refine (leadingZeros_l (HU.out.below HB0.out) (by omega) HT.out).mono ?_
  rintro en w1 ⟨⟨s, rfl, hs, hlo, hhi⟩, rfl⟩
  obtain ⟨n, hn⟩ : ∃ n, n = l.length := ⟨_, rfl⟩
  have HH := Lib.hid (heads_start HX.out HY.out hn.symm (by omega) (by omega) hs HLE.out (by rw [hn]; exact hhi))
  have HHI : Hid (nth l (n - 1) * 2 ^ s < 4294967296) := Lib.hid (by rw [hn]; exact hhi)
  have hn3 : 3 ≤ n := by omega
  have hn4 : n ≤ 1073741824 := by omega
  rw [← hn]
  have HNL := Lib.hid hn
  clear hlo hhi hn
  go_wp2_with fail
  have hC1 := Lib.hid (head_l (HU.out.below HB0.out) hs hn3 hn4 HHI.out)
  rw [← HNL.out] at hC1
  refine hC1.out.mono ?_
  rintro en w1 ⟨rfl, q1, rfl⟩
  go_wp2_with fail
  refine (head_l ((HV.out.below HB0.out).drewN q1) hs hn3 hn4 HH.out.1).mono ?_
  rintro en w2 ⟨rfl, q2, rfl⟩
  obtain ⟨X0, hX0⟩ : ∃ X0, X0 = headN l n s := ⟨_, rfl⟩
  obtain ⟨Y0, hY0⟩ : ∃ Y0, Y0 = headN m n s := ⟨_, rfl⟩
  have HP := HH.out.2
  rw [← hX0, ← hY0] at HP ⊢
  obtain ⟨hXb, hYb, hYX, D, a', b', hxD, hyD, haD, hbD⟩ := HP
  have HXD := Lib.hid hxD
  have HYD := Lib.hid hyD
  have HD := Lib.hid (And.intro haD hbD)
  clear hC1 hX0 hY0 hxD hyD haD hbD HH
  go_wp2_with fail
  go_loopw [6, 7] (fun xs ys wr => ∃ (xc yc A1 B1 A2 B2 A3 B3 : Nat) (t : Bool), xs = .int .u64 xc ∧ ys = .int .u64 yc ∧ xc < 18446744073709551616 ∧ yc ≤ xc ∧ At5 wr (w.heap.size + 1) A1 B1 A2 B2 t ∧ At2 wr (w.heap.size + 1 + 1) A3 B3 ∧ At5 wr w.heap.size 0 0 0 0 false ∧
    Hid (Below w.heap.size w wr) ∧ Hid (w.heap.size + 1 + 1 < wr.heap.size) ∧ Hid (LeapInv x y X0 Y0 (sgn t) xc yc A2 B2 A3 B3) ∧ Hid (B1 ≠ 0 → LeapOk x y A1 B1 A2 B2 t)) (fun _ ys _ => (intOf ys).toNat)
  case atStart =>
    refine ⟨X0, Y0, 0, 0, 1, 0, 0, 1, true, rfl, rfl, hXb, hYX, ?_, ?_, ?_, Lib.hid ?_, Lib.hid (by simp), Lib.hid (leap_init hYX), Lib.hid (fun h => absurd rfl h)⟩
    · refine At5.alloc ?_ _
      have h9 := heap_alloc_new ((w.alloc (Obj.cells #[Value.int IntKind.u64 0, Value.int IntKind.u64 0, Value.int IntKind.u64 0, Value.int IntKind.u64 0, Value.bool false] 142)).drewN (q1 + q2)) (Obj.cells #[Value.int IntKind.u64 0, Value.int IntKind.u64 0, Value.int IntKind.u64 1, Value.int IntKind.u64 0, Value.bool true] 142)
      simpa [At5] using h9
    · have h9 := heap_alloc_new (((w.alloc (Obj.cells #[Value.int IntKind.u64 0, Value.int IntKind.u64 0, Value.int IntKind.u64 0, Value.int IntKind.u64 0, Value.bool false] 142)).drewN (q1 + q2)).alloc (Obj.cells #[Value.int IntKind.u64 0, Value.int IntKind.u64 0, Value.int IntKind.u64 1, Value.int IntKind.u64 0, Value.bool true] 142)) (Obj.cells #[Value.int IntKind.u64 0, Value.int IntKind.u64 1] 140)
      simpa [At2] using h9
    · refine At5.alloc (At5.alloc ?_ _) _
      have h9 := heap_alloc_new w (Obj.cells #[Value.int IntKind.u64 0, Value.int IntKind.u64 0, Value.int IntKind.u64 0, Value.int IntKind.u64 0, Value.bool false] 142)
      simpa [At5] using h9
    · exact ((below_drewN HB0.out _).alloc (by simp) _).alloc (by simp; omega) _
  case round =>
    obtain ⟨xc, yc, A1, B1, A2, B2, A3, B3, t, rfl, rfl, hxc, hyx, h5, h2, h0, hbel, hsz, hinv, hok⟩ := hrel
    obtain ⟨l0, l1, l2, l3, l4⟩ := h5.cells
    obtain ⟨s0, s1⟩ := h2.cells
    by_cases c1 : B3 ≤ yc
    · have d1 : decide (B3 ≤ yc) = true := by simpa using c1
      have hsm := leap_small hinv.out (by omega) (by omega)
      have hmono := hinv.out.mono
      have hB3 : B3 < 4294967296 := by omega
      have hB2 : B2 < 4294967296 := by omega
      clear hsm hmono
      by_cases c2 : B2 + B3 ≤ xc - yc
      · have d2 : decide ((B2 : Int) + (B3 : Int) ≤ (xc : Int) - (yc : Int)) = true := by simp; omega
        have hy1 : 0 < yc := by have := hinv.out.b3; omega
        have hnext := Lib.hid (leap_step hinv.out HXD.out HYD.out HD.out.1 HD.out.2 c1 c2)
        have hroom := leap_room hinv.out hXb hy1 hnext.out
        have hok' := Lib.hid (fun h => leap_ok hinv.out HXD.out HYD.out HD.out.1 HD.out.2 hXb c1 c2 h)
        have hrm : Hid (remW xc yc < yc) := Lib.hid (Nat.mod_lt _ hy1)
        have w1 := quoW_wrap xc yc hxc
        have w2 : (xc : Int).tmod (yc : Int) = (remW xc yc : Int) := by rw [Int.tmod_eq_emod_of_nonneg (by omega)]; rfl
        have w3 := mulN_wrap (c := A2) (q := quoW xc yc) (a := A3) hroom.2
        have w4 := maN_wrap (c := A2) (q := quoW xc yc) (a := A3) hroom.2
        have w5 := mulN_wrap (c := B2) (q := quoW xc yc) (a := B3) hroom.1
        have w6 := maN_wrap (c := B2) (q := quoW xc yc) (a := B3) hroom.1
        clear hroom
        go_wp2_with fail
        go_quiet (fail)
        go_wp2_with ((with_reducible refine at_store ?_); refine wpList_store_var rfl _ _ _ rfl wr.heap.size rfl _ rfl _ _ (heap_alloc_new _ _) ishare rfl share_one ?_; intro w8 h8 hon8; refine halt ?_)
        have h58 := (At5.alloc (w := wr.drewN nq) h5 _).only hon8 (by have := hsz.out; omega)
        have h28 := (At2.alloc (w := wr.drewN nq) h2 _).only hon8 (by have := hsz.out; omega)
        have h08 := (At5.alloc (w := wr.drewN nq) h0 _).only hon8 (by have := hsz.out; omega)
        have hb8 := Lib.hid (below_only ((below_drewN hbel.out nq).alloc (by have := hsz.out; simp; omega) _) hon8 (by have := hsz.out; omega))
        have hb8s : Hid (wr.heap.size ≤ w8.heap.size) := Lib.hid (by have := hon8.size; simp at this; omega)
        clear l0 l1 l2 l3 l4 s0 s1 h5 h2 h0 hon8
        refine go_on ?_
        obtain ⟨l0, l1, l2, l3, l4⟩ := h58.cells
        obtain ⟨s0, s1⟩ := h28.cells
        go_wp2_with ((with_reducible refine at_store ?_); refine wpList_store_var rfl _ _ _ rfl (w.heap.size + 1) rfl _ rfl _ _ h58 ileap rfl leap_one ?_; intro w9 h9 hon9; refine halt ?_)
        refine go_on ?_
        have h29 := h28.only hon9 (by omega)
        have hN9 : At2 w9 (wr.heap.size) (maN A2 (quoW xc yc) A3) (maN B2 (quoW xc yc) B3) := At2.only h8 hon9 (by have := hsz.out; omega)
        obtain ⟨n0, n1⟩ := hN9.cells
        clear l0 l1 l2 l3 l4 s0 s1
        go_wp2_with ((with_reducible refine at_store ?_); refine wpList_store_var rfl _ _ _ rfl (w.heap.size + 1 + 1) rfl _ rfl _ _ h29 ishare rfl share_one ?_; intro w10 h10 hon10; refine halt ?_)
        refine go_on ?_
        clear n0 n1
        go_wp2_with fail
        go_roundw
        case rel =>
          have hb10 := below_only (below_only hb8.out hon9 (by omega)) hon10 (by omega)
          refine ⟨yc, remW xc yc, A2, B2, A3, B3, maN A2 (quoW xc yc) A3, maN B2 (quoW xc yc) B3, !t, rfl, rfl, by omega, Nat.le_of_lt hrm.out, At5.only (B := w.heap.size + 1) h9 hon10 (by omega), h10, (h08.only hon9 (by omega)).only hon10 (by omega), Lib.hid hb10, Lib.hid (by have := hsz.out; have := hb8s.out; have := hon9.size; have := hon10.size; omega), hnext, hok'⟩
        case measure => simp [intOf]; have := hrm.out; omega
      · have d2 : decide ((B2 : Int) + (B3 : Int) ≤ (xc : Int) - (yc : Int)) = false := by simp; omega
        go_wp2_with ((with_reducible refine at_store ?_); refine wpList_store_var rfl _ _ _ rfl w.heap.size rfl _ rfl _ _ h0 ileap rfl leap_one ?_; intro w9 h9 hon9; refine halt ?_)
        refine go_on ?_
        go_wp2_with fail
        exact bodyPost_ret (results_cell_row rfl _ _ w.heap.size _ _ _ _ rfl h9 Tryz.underlying142 rfl ileap) rfl ⟨⟨A1, B1, A2, B2, t, rfl, hok.out⟩, below_only hbel.out hon9 (Nat.le_refl _)⟩
    · have d1 : decide (B3 ≤ yc) = false := by simpa using c1
      go_wp2_with ((with_reducible refine at_store ?_); refine wpList_store_var rfl _ _ _ rfl w.heap.size rfl _ rfl _ _ h0 ileap rfl leap_one ?_; intro w9 h9 hon9; refine halt ?_)
      refine go_on ?_
      go_wp2_with fail
      exact bodyPost_ret (results_cell_row rfl _ _ w.heap.size _ _ _ _ rfl h9 Tryz.underlying142 rfl ileap) rfl ⟨⟨A1, B1, A2, B2, t, rfl, hok.out⟩, below_only hbel.out hon9 (Nat.le_refl _)⟩
end Go.Proofs.YtlaphdlocchagaaGreat

/- The greatest common divisor. -/
namespace Go.Proofs.YtlaphdlocchagaaGreat
open Go.RowKit

set_option maxHeartbeats 400000 in
theorem gcdUint_w {w : World} (x y : Nat) (hx : x < 18446744073709551616) (hy : y < 18446744073709551616) :
    Calls Tryz.prog 149 #[.int .u64 x, .int .u64 y] w fun e w' => e = .returned (.int .u64 (Nat.gcd x y : Nat)) ∧ ∃ n, w' = w.drewN n := by
  go_enter Tryz.func149, Tryz.ntmps149
  go_wp2_with fail
  go_loopw [0, 1] (fun a b wr => ∃ xa ya : Nat, a = .int .u64 xa ∧ b = .int .u64 ya ∧ xa < 18446744073709551616 ∧ ya < 18446744073709551616 ∧ Hid (Nat.gcd xa ya = Nat.gcd x y) ∧ ∃ n, wr = w.drewN n) (fun _ b _ => (intOf b).toNat)
  case atStart => exact ⟨x, y, rfl, rfl, hx, hy, Lib.hid rfl, 0, rfl⟩
  case round =>
    obtain ⟨xa, ya, rfl, rfl, hxa, hya, hg, n, rfl⟩ := hrel
    by_cases h0 : ya = 0
    · have h1 : ((ya : Int) == 0) = true := by simp [h0]
      have H0 := Lib.hid h0
      clear h0
      have h2 : ((ya : Int) != 0) = false := by simpa using h1
      go_wp2_with fail
      go_ret
      refine ⟨ret_int ?_, _, rfl⟩
      rw [← hg.out, H0.out, Nat.gcd_zero_right]
    · have h2 : ((ya : Int) != 0) = true := by simp; omega
      have h3 : 0 < ya := by omega
      have w2 : (xa : Int).tmod (ya : Int) = (remW xa ya : Int) := by rw [Int.tmod_eq_emod_of_nonneg (by omega)]; rfl
      have hr : Hid (remW xa ya < ya) := Lib.hid (Nat.mod_lt _ h3)
      have hgn : Hid (Nat.gcd ya (remW xa ya) = Nat.gcd x y) := Lib.hid (by
        rw [← hg.out]; unfold remW; rw [Nat.gcd_comm xa ya, Nat.gcd_rec ya xa, Nat.gcd_comm])
      clear h0
      go_wp2_with fail
      go_quiet (fail)
      go_wp2_with fail
      go_roundw
      case rel => exact ⟨ya, remW xa ya, rfl, rfl, hya, by have := hr.out; omega, hgn, n + nq, World.drewN_drewN _ _ _⟩
      case measure => simp [intOf]; have := hr.out; omega

set_option maxHeartbeats 400000 in
theorem over_w {w : World} {u v : Value} {x y : Nat} (hu : IsW w u (digs x)) (hv : IsW w v (digs y)) (hy : 0 < y) (hl : (digs x).length < 1073741824) :
    Calls Tryz.prog 133 #[u, v] w fun e w' => (∃ q, e = .returned q ∧ IsW w' q (digs (x / y)) ∧ (∀ b, q.ownBlock = some b → w.heap.size ≤ b ∨ u.ownBlock = some b)) ∧ Below w.heap.size w w' := by
  have hC := Lib.hid (div_w hu hv hy hl)
  clear hu hv hy hl
  go_enter Tryz.func133, Tryz.ntmps133
  go_wp2_with fail
  refine hC.out.mono ?_
  rintro en w1 ⟨⟨q, r, rfl, hq, hr, hqo, hro⟩, hbel⟩
  go_wp2_with fail
  go_ret
  exact ⟨⟨q, rfl, hq, hqo⟩, hbel⟩

/-- The words of a result are new, or of one of the two that were handed in. -/
def Own3 (w : World) (u v r : Value) : Prop := ∀ b, r.ownBlock = some b → w.heap.size ≤ b ∨ u.ownBlock = some b ∨ v.ownBlock = some b

def GcdPost (w : World) (u v : Value) (g : Nat) (e : Ending) (w' : World) : Prop := (∃ r, e = .returned r ∧ IsW w' r (digs g) ∧ Own3 w u v r) ∧ Below w.heap.size w w'
theorem LeapOk.rests {a b A1 B1 A2 B2 : Nat} {t : Bool} (h : LeapOk a b A1 B1 A2 B2 t) : ∃ R1 R2 : Nat, R2 ≤ R1 ∧ R1 ≤ b ∧ R2 < b ∧ Nat.gcd R1 R2 = Nat.gcd a b ∧ A1 < 4294967296 ∧ B1 < 4294967296 ∧ A2 < 4294967296 ∧ B2 < 4294967296 ∧
    (t = true → B1 * b = A1 * a + R1 ∧ A2 * a = B2 * b + R2) ∧ (t = false → A1 * a = B1 * b + R1 ∧ B2 * b = A2 * a + R2) := by
  obtain ⟨h1, h2, h3, h4, R1, R2, h5, h6, h7, h8, h9⟩ := h
  refine ⟨R1, R2, h6, h7, h8, h9, h1, h2, h3, h4, fun ht => by simpa [ht] using h5, fun ht => by simpa [ht] using h5⟩

/-- What holds at the head of the loop. -/
structure GcdAt (w wr : World) (u v A B : Value) (x y xa ya : Nat) : Prop where
  a : IsW wr A (digs xa)
  b : IsW wr B (digs ya)
  le : ya ≤ xa
  gcd : Nat.gcd xa ya = Nat.gcd x y
  la : (digs xa).length < 1073741824
  lb : (digs ya).length < 1073741824
  oa : Own3 w u v A
  ob : Own3 w u v B
  bel : Below w.heap.size w wr

theorem leap_apply {w : World} {A B : Value} {xa ya a1 b1 a2 b2 : Nat} {t : Bool} {R1 R2 : Nat} (hA : IsW w A (digs xa)) (hB : IsW w B (digs ya)) (ha1 : a1 < 4294967296) (hb1 : b1 < 4294967296) (ha2 : a2 < 4294967296) (hb2 : b2 < 4294967296)
    (ht : t = true → b1 * ya = a1 * xa + R1 ∧ a2 * xa = b2 * ya + R2) (hf : t = false → a1 * xa = b1 * ya + R1 ∧ b2 * ya = a2 * xa + R2) (hR1 : R1 ≤ ya) (hR2 : R2 ≤ ya) :
    Calls Tryz.prog 146 #[leapV a1 b1 a2 b2 t, A, B] w fun e w' => (∃ r s, e = .returned (.tuple #[r, s]) ∧ IsW w' r (digs R1) ∧ IsW w' s (digs R2) ∧ (∀ b, r.ownBlock = some b → w.heap.size ≤ b) ∧ (∀ b, s.ownBlock = some b → w.heap.size ≤ b)) ∧ Below w.heap.size w w' := by
  have hlt : ya < 4294967296 ^ max (digs xa).length (digs ya).length := Nat.lt_of_lt_of_le (lt_of_len_digs ya) (Nat.pow_le_pow_right (by omega) (by omega))
  cases t with
  | true => exact apply_t hA hB ha1 hb1 ha2 hb2 rfl (by rw [val_digs, val_digs]; exact (ht rfl).1) (by rw [val_digs, val_digs]; exact (ht rfl).2) (by omega) (by omega)
  | false => exact apply_f hA hB ha1 hb1 ha2 hb2 rfl (by rw [val_digs, val_digs]; exact (hf rfl).1) (by rw [val_digs, val_digs]; exact (hf rfl).2) (by omega) (by omega)

theorem own_new {w wr : World} {u v r : Value} (h : ∀ b, r.ownBlock = some b → wr.heap.size ≤ b) (hb : Below w.heap.size w wr) : Own3 w u v r := fun b e => Or.inl (by have := h b e; have := hb.size; omega)
theorem own_div {w wr : World} {u v A r : Value} (h : ∀ b, r.ownBlock = some b → wr.heap.size ≤ b ∨ A.ownBlock = some b) (hA : Own3 w u v A) (hb : Below w.heap.size w wr) : Own3 w u v r := fun b e => by
  rcases h b e with h1 | h1
  · exact Or.inl (by have := hb.size; omega)
  · exact hA b h1

set_option maxRecDepth 100000 in
set_option maxHeartbeats 1000000 in
theorem gcd_w {w : World} {u v : Value} {x y : Nat} (hu : IsW w u (digs x)) (hv : IsW w v (digs y)) (hlx : (digs x).length < 1073741824) (hly : (digs y).length < 1073741824) :
    Calls Tryz.prog 123 #[u, v] w (GcdPost w u v (Nat.gcd x y)) := by
  have HU := Lib.hid hu
  have HV := Lib.hid hv
  have HLX := Lib.hid hlx
  have HLY := Lib.hid hly
  clear hu hv hlx hly
  by_cases hlt : x < y
  · have hc : cmpN x y < 0 := by unfold cmpN; rw [if_pos hlt]; omega
    have HST : ∀ n, Hid (GcdAt w (w.drewN n) u v v u x y y x) := fun n => Lib.hid ⟨HV.out.drewN n, HU.out.drewN n, by omega, Nat.gcd_comm y x, HLY.out, HLX.out, fun b h => Or.inr (Or.inr h), fun b h => Or.inr (Or.inl h), below_drewN (Below.refl _ _) n⟩
    clear hlt
    go_enter Tryz.func123, Tryz.ntmps123
    go_wp2_with fail
    refine (compare_d HU.out HV.out).mono ?_
    rintro en w1 ⟨rfl, n1, rfl⟩
    go_wp2_with fail
    go_loopg [0, 1] x (fun g A B wr => ∃ xa ya : Nat, g = ya ∧ Hid (GcdAt w wr u v A B x y xa ya))
    case atStart => exact ⟨y, x, rfl, HST n1⟩
    case round =>
      obtain ⟨xa, ya, hg, hat⟩ := hrel
      have hg' := hg.symm
      subst hg'
      clear hg
      by_cases hsh : (digs ya).length ≤ 2
      · have hs1 := shortB_true hsh
        have HS := Lib.hid hsh
        clear hsh
        go_wp2_with fail
        refine (short_w hat.out.b).mono ?_
        rintro en w2 ⟨rfl, rfl⟩
        have hHB := Lib.hid hat.out.b
        have hHA := Lib.hid hat.out.a
        by_cases hz : ya = 0
        · have hz1 := zerB_true hz
          have HZ := Lib.hid hz
          clear hz
          go_wp2_with fail
          refine (isZero_w hHB.out).mono ?_
          rintro en w3 ⟨rfl, rfl⟩
          go_wp2_with fail
          go_ret
          refine ⟨⟨u0, rfl, ?_, hat.out.oa⟩, hat.out.bel⟩
          have e : Nat.gcd x y = xa := by rw [← hat.out.gcd, HZ.out, Nat.gcd_zero_right]
          rw [e]; exact hHA.out
        · have hz1 := zerB_false hz
          have hpos : Hid (0 < ya) := Lib.hid (by omega)
          clear hz
          go_wp2_with fail
          refine (isZero_w hHB.out).mono ?_
          rintro en w3 ⟨rfl, rfl⟩
          go_wp2_with fail
          refine (div_w hHA.out hHB.out hpos.out hat.out.la).mono ?_
          rintro en w4 ⟨⟨q, r, rfl, hq, hr, hqo, hro⟩, hbel4⟩
          have HR := Lib.hid hr
          clear hq hr hqo hro
          have hrl : Hid (xa % ya < ya) := Lib.hid (Nat.mod_lt _ hpos.out)
          have hrs : Hid ((digs (xa % ya)).length ≤ 2) := Lib.hid (Nat.le_trans (len_digs_mono (Nat.le_of_lt hrl.out)) HS.out)
          have hyb : ya < 18446744073709551616 := by have := two_lt (ws_digs ya) HS.out; rwa [val_digs] at this
          obtain ⟨rm, hrm⟩ : ∃ rm, rm = xa % ya := ⟨_, rfl⟩
          have HRM := Lib.hid hrm
          rw [← hrm] at HR hrl hrs
          clear hrm
          have hgl : Nat.gcd ya rm < 18446744073709551616 := Nat.lt_of_le_of_lt (Nat.gcd_le_left _ hpos.out) hyb
          obtain ⟨g, hg⟩ : ∃ g, g = Nat.gcd ya rm := ⟨_, rfl⟩
          have HG := Lib.hid hg
          rw [← hg] at hgl
          clear hg
          go_wp2_with fail
          refine (value_d (hHB.out.below hbel4) HS.out).mono ?_
          rintro en w5 ⟨rfl, rfl⟩
          go_wp2_with fail
          refine (value_d HR.out hrs.out).mono ?_
          rintro en w5 ⟨rfl, rfl⟩
          have hC := Lib.hid (gcdUint_w (w := w4) ya rm hyb (by have := hrl.out; omega))
          rw [← HG.out] at hC
          go_wp2_with fail
          refine hC.out.mono ?_
          rintro en w5 ⟨rfl, n5, rfl⟩
          go_wp2_with fail
          refine (fromUint_q g hgl _).mono ?_
          rintro en w6 ⟨⟨r2, rfl, hr2, hro2⟩, hbel6⟩
          go_wp2_with fail
          go_ret
          have e : Nat.gcd x y = g := by rw [HG.out, HRM.out, ← hat.out.gcd, Nat.gcd_comm xa ya, Nat.gcd_rec ya xa, Nat.gcd_comm]
          rw [← e] at hr2
          exact ⟨⟨r2, rfl, hr2, own_new (wr := w4) hro2 (below_trans hat.out.bel hbel4)⟩, below_trans (below_trans hat.out.bel hbel4) (below_undraw hbel6)⟩
      · have hs1 := shortB_false hsh
        have HS := Lib.hid hsh
        clear hsh
        go_wp2_with fail
        refine (short_w hat.out.b).mono ?_
        rintro en w2 ⟨rfl, rfl⟩
        go_wp2_with fail
        refine (findLeap_c rfl rfl hat.out.a hat.out.b (by have := HS.out; omega) hat.out.le).mono ?_
        rintro en wf ⟨⟨a1, b1, a2, b2, t, rfl, hok⟩, hbf⟩
        have HOK := Lib.hid hok
        unfold leapV
        clear hok
        have hyp : Hid (0 < ya) := Lib.hid (by
          rcases Nat.eq_zero_or_pos ya with h | h
          · exfalso; apply HS.out; rw [h, digs_zero]; simp
          · exact h)
        have hHA := Lib.hid hat.out.a
        have hHB := Lib.hid hat.out.b
        have hA5 : At5 (wf.alloc (Obj.cells #[Value.int IntKind.u64 a1, Value.int IntKind.u64 b1, Value.int IntKind.u64 a2, Value.int IntKind.u64 b2, Value.bool t] 142)) wf.heap.size a1 b1 a2 b2 t := heap_alloc_new _ _
        have hbA := (Below.refl wf.heap.size wf).alloc (Nat.le_refl _) (Obj.cells #[Value.int IntKind.u64 a1, Value.int IntKind.u64 b1, Value.int IntKind.u64 a2, Value.int IntKind.u64 b2, Value.bool t] 142)
        have HA5 := Lib.hid hA5
        have HBA := Lib.hid hbA
        clear hA5 hbA
        by_cases hb0 : b1 = 0
        · have hbb : (b1 == 0) = true := by simp [hb0]
          clear hb0
          go_wp2_with fail
          refine (any_l (a1 := a1) (b1 := b1) (a2 := a2) (b2 := b2) (t := t)).mono ?_
          rintro en w2 ⟨rfl, hbel2⟩
          have hB2 := Lib.hid (below_trans hbf (below_trans HBA.out hbel2))
          go_wp2_with fail
          refine (div_w (hHA.out.below hB2.out) (hHB.out.below hB2.out) hyp.out hat.out.la).mono ?_
          rintro en w3 ⟨⟨q, r, rfl, hq, hr, hqo, hro⟩, hbel3⟩
          have hm := Nat.mod_lt xa hyp.out
          have hnew : Hid (GcdAt w w3 u v u1 r x y ya (xa % ya)) := Lib.hid ⟨(hHB.out.below hB2.out).below hbel3, hr, Nat.le_of_lt hm, by rw [← hat.out.gcd, Nat.gcd_comm xa ya, Nat.gcd_rec ya xa, Nat.gcd_comm], hat.out.lb, Nat.lt_of_le_of_lt (len_digs_mono (Nat.le_of_lt hm)) hat.out.lb,
            hat.out.ob, own_div hro hat.out.oa (below_trans hat.out.bel hB2.out), below_trans (below_trans hat.out.bel hB2.out) hbel3⟩
          have HM := Lib.hid hm
          clear hq hr hqo hro hm
          go_wp2_with fail
          go_roundg (xa % ya)
          case measure => exact HM.out
          case rel => exact ⟨ya, xa % ya, rfl, hnew⟩
        · have hbb : (b1 == 0) = false := by simp [hb0]
          have hLO := Lib.hid (LeapOk.rests (HOK.out hb0))
          clear hb0
          go_wp2_with fail
          refine (any_l (a1 := a1) (b1 := b1) (a2 := a2) (b2 := b2) (t := t)).mono ?_
          rintro en w2 ⟨rfl, hbel2⟩
          have hB2 := Lib.hid (below_trans hbf (below_trans HBA.out hbel2))
          have h52 : At5 w2 wf.heap.size a1 b1 a2 b2 t := by
            unfold At5
            rw [hbel2.block wf.heap.size (by simp)]
            exact HA5.out
          obtain ⟨l0, l1, l2, l3, l4⟩ := h52.cells
          obtain ⟨R1, R2, q1, q2, q3, q4, q5, q6, q7, q8, q9, q10⟩ := hLO.out
          have hC := Lib.hid (leap_apply (t := t) (hHA.out.below hB2.out) (hHB.out.below hB2.out) q5 q6 q7 q8 q9 q10 q2 (Nat.le_of_lt q3))
          have hLE : Hid (R2 ≤ R1 ∧ R1 ≤ ya ∧ R2 < ya) := Lib.hid ⟨q1, q2, q3⟩
          have hGG : Hid (Nat.gcd R1 R2 = Nat.gcd xa ya) := Lib.hid q4
          clear q1 q2 q3 q4 q5 q6 q7 q8 q9 q10 h52
          go_wp2_with fail
          refine hC.out.mono ?_
          rintro en w3 ⟨⟨r, s, rfl, hr, hs, hro, hso⟩, hbel3⟩
          have hnew : Hid (GcdAt w w3 u v r s x y R1 R2) := Lib.hid ⟨hr, hs, hLE.out.1, by rw [hGG.out, hat.out.gcd], Nat.lt_of_le_of_lt (len_digs_mono hLE.out.2.1) hat.out.lb, Nat.lt_of_le_of_lt (len_digs_mono (Nat.le_of_lt hLE.out.2.2)) hat.out.lb,
            own_new hro (below_trans hat.out.bel hB2.out), own_new hso (below_trans hat.out.bel hB2.out), below_trans (below_trans hat.out.bel hB2.out) hbel3⟩
          clear hr hs hro hso
          go_wp2_with fail
          go_roundg R2
          case measure => exact hLE.out.2.2
          case rel => exact ⟨R1, R2, rfl, hnew⟩
  · have hc : ¬ cmpN x y < 0 := by unfold cmpN; rw [if_neg hlt]; split <;> omega
    have HST : ∀ n, Hid (GcdAt w (w.drewN n) u v u v x y x y) := fun n => Lib.hid ⟨HU.out.drewN n, HV.out.drewN n, by omega, rfl, HLX.out, HLY.out, fun b h => Or.inr (Or.inl h), fun b h => Or.inr (Or.inr h), below_drewN (Below.refl _ _) n⟩
    clear hlt
    go_enter Tryz.func123, Tryz.ntmps123
    go_wp2_with fail
    refine (compare_d HU.out HV.out).mono ?_
    rintro en w1 ⟨rfl, n1, rfl⟩
    go_wp2_with fail
    go_loopg [0, 1] y (fun g A B wr => ∃ xa ya : Nat, g = ya ∧ Hid (GcdAt w wr u v A B x y xa ya))
    case atStart => exact ⟨x, y, rfl, HST n1⟩
    case round =>
      obtain ⟨xa, ya, hg, hat⟩ := hrel
      have hg' := hg.symm
      subst hg'
      clear hg
      by_cases hsh : (digs ya).length ≤ 2
      · have hs1 := shortB_true hsh
        have HS := Lib.hid hsh
        clear hsh
        go_wp2_with fail
        refine (short_w hat.out.b).mono ?_
        rintro en w2 ⟨rfl, rfl⟩
        have hHB := Lib.hid hat.out.b
        have hHA := Lib.hid hat.out.a
        by_cases hz : ya = 0
        · have hz1 := zerB_true hz
          have HZ := Lib.hid hz
          clear hz
          go_wp2_with fail
          refine (isZero_w hHB.out).mono ?_
          rintro en w3 ⟨rfl, rfl⟩
          go_wp2_with fail
          go_ret
          refine ⟨⟨u0, rfl, ?_, hat.out.oa⟩, hat.out.bel⟩
          have e : Nat.gcd x y = xa := by rw [← hat.out.gcd, HZ.out, Nat.gcd_zero_right]
          rw [e]; exact hHA.out
        · have hz1 := zerB_false hz
          have hpos : Hid (0 < ya) := Lib.hid (by omega)
          clear hz
          go_wp2_with fail
          refine (isZero_w hHB.out).mono ?_
          rintro en w3 ⟨rfl, rfl⟩
          go_wp2_with fail
          refine (div_w hHA.out hHB.out hpos.out hat.out.la).mono ?_
          rintro en w4 ⟨⟨q, r, rfl, hq, hr, hqo, hro⟩, hbel4⟩
          have HR := Lib.hid hr
          clear hq hr hqo hro
          have hrl : Hid (xa % ya < ya) := Lib.hid (Nat.mod_lt _ hpos.out)
          have hrs : Hid ((digs (xa % ya)).length ≤ 2) := Lib.hid (Nat.le_trans (len_digs_mono (Nat.le_of_lt hrl.out)) HS.out)
          have hyb : ya < 18446744073709551616 := by have := two_lt (ws_digs ya) HS.out; rwa [val_digs] at this
          obtain ⟨rm, hrm⟩ : ∃ rm, rm = xa % ya := ⟨_, rfl⟩
          have HRM := Lib.hid hrm
          rw [← hrm] at HR hrl hrs
          clear hrm
          have hgl : Nat.gcd ya rm < 18446744073709551616 := Nat.lt_of_le_of_lt (Nat.gcd_le_left _ hpos.out) hyb
          obtain ⟨g, hg⟩ : ∃ g, g = Nat.gcd ya rm := ⟨_, rfl⟩
          have HG := Lib.hid hg
          rw [← hg] at hgl
          clear hg
          go_wp2_with fail
          refine (value_d (hHB.out.below hbel4) HS.out).mono ?_
          rintro en w5 ⟨rfl, rfl⟩
          go_wp2_with fail
          refine (value_d HR.out hrs.out).mono ?_
          rintro en w5 ⟨rfl, rfl⟩
          have hC := Lib.hid (gcdUint_w (w := w4) ya rm hyb (by have := hrl.out; omega))
          rw [← HG.out] at hC
          go_wp2_with fail
          refine hC.out.mono ?_
          rintro en w5 ⟨rfl, n5, rfl⟩
          go_wp2_with fail
          refine (fromUint_q g hgl _).mono ?_
          rintro en w6 ⟨⟨r2, rfl, hr2, hro2⟩, hbel6⟩
          go_wp2_with fail
          go_ret
          have e : Nat.gcd x y = g := by rw [HG.out, HRM.out, ← hat.out.gcd, Nat.gcd_comm xa ya, Nat.gcd_rec ya xa, Nat.gcd_comm]
          rw [← e] at hr2
          exact ⟨⟨r2, rfl, hr2, own_new (wr := w4) hro2 (below_trans hat.out.bel hbel4)⟩, below_trans (below_trans hat.out.bel hbel4) (below_undraw hbel6)⟩
      · have hs1 := shortB_false hsh
        have HS := Lib.hid hsh
        clear hsh
        go_wp2_with fail
        refine (short_w hat.out.b).mono ?_
        rintro en w2 ⟨rfl, rfl⟩
        go_wp2_with fail
        refine (findLeap_c rfl rfl hat.out.a hat.out.b (by have := HS.out; omega) hat.out.le).mono ?_
        rintro en wf ⟨⟨a1, b1, a2, b2, t, rfl, hok⟩, hbf⟩
        have HOK := Lib.hid hok
        unfold leapV
        clear hok
        have hyp : Hid (0 < ya) := Lib.hid (by
          rcases Nat.eq_zero_or_pos ya with h | h
          · exfalso; apply HS.out; rw [h, digs_zero]; simp
          · exact h)
        have hHA := Lib.hid hat.out.a
        have hHB := Lib.hid hat.out.b
        have hA5 : At5 (wf.alloc (Obj.cells #[Value.int IntKind.u64 a1, Value.int IntKind.u64 b1, Value.int IntKind.u64 a2, Value.int IntKind.u64 b2, Value.bool t] 142)) wf.heap.size a1 b1 a2 b2 t := heap_alloc_new _ _
        have hbA := (Below.refl wf.heap.size wf).alloc (Nat.le_refl _) (Obj.cells #[Value.int IntKind.u64 a1, Value.int IntKind.u64 b1, Value.int IntKind.u64 a2, Value.int IntKind.u64 b2, Value.bool t] 142)
        have HA5 := Lib.hid hA5
        have HBA := Lib.hid hbA
        clear hA5 hbA
        by_cases hb0 : b1 = 0
        · have hbb : (b1 == 0) = true := by simp [hb0]
          clear hb0
          go_wp2_with fail
          refine (any_l (a1 := a1) (b1 := b1) (a2 := a2) (b2 := b2) (t := t)).mono ?_
          rintro en w2 ⟨rfl, hbel2⟩
          have hB2 := Lib.hid (below_trans hbf (below_trans HBA.out hbel2))
          go_wp2_with fail
          refine (div_w (hHA.out.below hB2.out) (hHB.out.below hB2.out) hyp.out hat.out.la).mono ?_
          rintro en w3 ⟨⟨q, r, rfl, hq, hr, hqo, hro⟩, hbel3⟩
          have hm := Nat.mod_lt xa hyp.out
          have hnew : Hid (GcdAt w w3 u v u1 r x y ya (xa % ya)) := Lib.hid ⟨(hHB.out.below hB2.out).below hbel3, hr, Nat.le_of_lt hm, by rw [← hat.out.gcd, Nat.gcd_comm xa ya, Nat.gcd_rec ya xa, Nat.gcd_comm], hat.out.lb, Nat.lt_of_le_of_lt (len_digs_mono (Nat.le_of_lt hm)) hat.out.lb,
            hat.out.ob, own_div hro hat.out.oa (below_trans hat.out.bel hB2.out), below_trans (below_trans hat.out.bel hB2.out) hbel3⟩
          have HM := Lib.hid hm
          clear hq hr hqo hro hm
          go_wp2_with fail
          go_roundg (xa % ya)
          case measure => exact HM.out
          case rel => exact ⟨ya, xa % ya, rfl, hnew⟩
        · have hbb : (b1 == 0) = false := by simp [hb0]
          have hLO := Lib.hid (LeapOk.rests (HOK.out hb0))
          clear hb0
          go_wp2_with fail
          refine (any_l (a1 := a1) (b1 := b1) (a2 := a2) (b2 := b2) (t := t)).mono ?_
          rintro en w2 ⟨rfl, hbel2⟩
          have hB2 := Lib.hid (below_trans hbf (below_trans HBA.out hbel2))
          have h52 : At5 w2 wf.heap.size a1 b1 a2 b2 t := by
            unfold At5
            rw [hbel2.block wf.heap.size (by simp)]
            exact HA5.out
          obtain ⟨l0, l1, l2, l3, l4⟩ := h52.cells
          obtain ⟨R1, R2, q1, q2, q3, q4, q5, q6, q7, q8, q9, q10⟩ := hLO.out
          have hC := Lib.hid (leap_apply (t := t) (hHA.out.below hB2.out) (hHB.out.below hB2.out) q5 q6 q7 q8 q9 q10 q2 (Nat.le_of_lt q3))
          have hLE : Hid (R2 ≤ R1 ∧ R1 ≤ ya ∧ R2 < ya) := Lib.hid ⟨q1, q2, q3⟩
          have hGG : Hid (Nat.gcd R1 R2 = Nat.gcd xa ya) := Lib.hid q4
          clear q1 q2 q3 q4 q5 q6 q7 q8 q9 q10 h52
          go_wp2_with fail
          refine hC.out.mono ?_
          rintro en w3 ⟨⟨r, s, rfl, hr, hs, hro, hso⟩, hbel3⟩
          have hnew : Hid (GcdAt w w3 u v r s x y R1 R2) := Lib.hid ⟨hr, hs, hLE.out.1, by rw [hGG.out, hat.out.gcd], Nat.lt_of_le_of_lt (len_digs_mono hLE.out.2.1) hat.out.lb, Nat.lt_of_le_of_lt (len_digs_mono (Nat.le_of_lt hLE.out.2.2)) hat.out.lb,
            own_new hro (below_trans hat.out.bel hB2.out), own_new hso (below_trans hat.out.bel hB2.out), below_trans (below_trans hat.out.bel hB2.out) hbel3⟩
          clear hr hs hro hso
          go_wp2_with fail
          go_roundg R2
          case measure => exact hLE.out.2.2
          case rel => exact ⟨R1, R2, rfl, hnew⟩
end Go.Proofs.YtlaphdlocchagaaGreat
