/- Several texts in one: Pv, Wq. -/
import Derived.Test.YtafenoohjcpjgaaGreatZ1
import Derived.Laws.CopyRow
import Derived.Laws.Rows
import Derived.Test.YtafenoohjcpjgaaGreatZ6
/- A whole variable stored at once. -/
namespace Go.Proofs.YtafenoohjcpjgaaGreat
open Go.RowKit

/-- A guard: the next operation is a store. -/
theorem at_store {P : Program} {w : World} {ops : Array Oper} {rest : List Oper} {dst : Option Tmp} {type : TypeId} {pos : String} {after : Array Edge} {guard : Option (Nat × Bool)} {ty : TypeId} {x y : Operand} {a : Act} {Q : Exit → Act → World → Prop}
    (h : wpList P ops Q (⟨dst, .store ty x y, type, pos, after, guard⟩ :: rest) a w) : wpList P ops Q (⟨dst, .store ty x y, type, pos, after, guard⟩ :: rest) a w := h
theorem run_storeVar_row {P : Program} (w : World) (g : Nat) (t ty : TypeId) (cur vs : Array Value) (hg : w.heap[g]? = some (.cells cur t (0, 0))) (hi : (P.info? ty).map (·.size) = some vs.size) (hs : vs.size = cur.size) (h1 : ∀ v ∈ vs.toList, v.oneCell' = true) :
    (storeVar ty ⟨g, 0, none⟩ (.agg vs)).run P w = .ok () (w.setRow g vs) := by
  have h := run_storeCells_at (P := P) g 0 t vs.toList 0 cur w hg (by simp; omega) h1
  have e : (cur.toList.take (0 + 0) ++ vs.toList ++ cur.toList.drop (0 + 0 + vs.toList.length)).toArray = vs := by
    have e0 : cur.toList.drop (0 + 0 + vs.toList.length) = [] := List.drop_eq_nil_of_le (by simp; omega)
    rw [e0]; simp
  rw [e] at h
  cases hq : P.info? ty with
  | none => simp [hq] at hi
  | some i =>
    have hsz : i.size = vs.size := by simpa [hq] using hi
    simp [storeVar, Sem.run_bind, sizeOf, typeInfo, hq, hsz, Value.cells, h]

theorem wpList_store_var {P : Program} {ops : Array Oper} {rest : List Oper} {o : Oper} {a : Act} {w : World} {Q : Exit → Act → World → Prop} (hgd : o.guard = none) (ty : TypeId) (x y : Operand) (ho : o.op = .store ty x y)
    (g : Nat) (hx : a.eval x = .pointer (some ⟨g, 0, none⟩)) (vs : Array Value) (hy : a.eval y = .agg vs) (t : TypeId) (cur : Array Value) (hg : w.heap[g]? = some (.cells cur t (0, 0)))
    (hi : (P.info? ty).map (·.size) = some vs.size) (hs : vs.size = cur.size) (h1 : ∀ v ∈ vs.toList, v.oneCell' = true)
    (h : ∀ w', w'.heap[g]? = some (.cells vs t (0, 0)) → Only g w w' → wpList P ops Q rest (a.put o.dst undef) w') : wpList P ops Q (o :: rest) a w := by
  refine wpList_plain hgd fun K hK => ?_
  unfold Oper.wp execOp
  have hr := run_storeVar_row (P := P) w g t ty cur vs hg hi hs h1
  simp only [ho, hx, hy, Instr.storeAt, Instr.sureAddr, Sem.run_bind, Sem.run_pure, Result.andThen_ok, hr]
  exact hK _ _ (h _ (setRow_heap w g cur vs t _ hg) ⟨rfl, rfl, rfl, by simp [World.setRow], fun k hk => setRow_other w g k _ hk⟩)
end Go.Proofs.YtafenoohjcpjgaaGreat

/- Finding a leap: the walk. -/
namespace Go.Proofs.YtafenoohjcpjgaaGreat
open Go.RowKit

/-- A block with a leap in it, with a share in it. -/
def At5 (w : World) (B : Nat) (a1 b1 a2 b2 : Nat) (t : Bool) : Prop := w.heap[B]? = some (.cells #[.int .u64 a1, .int .u64 b1, .int .u64 a2, .int .u64 b2, .bool t] 135 (0, 0))
def At2 (w : World) (B : Nat) (a b : Nat) : Prop := w.heap[B]? = some (.cells #[.int .u64 a, .int .u64 b] 133 (0, 0))

theorem ileap : (Tryz.prog.info? 135).map (·.size) = some 5 := by kernel_rfl
theorem ishare : (Tryz.prog.info? 133).map (·.size) = some 2 := by kernel_rfl
theorem leap_one {a1 b1 a2 b2 : Nat} {t : Bool} : ∀ v ∈ (#[.int .u64 a1, .int .u64 b1, .int .u64 a2, .int .u64 b2, .bool t] : Array Value).toList, v.oneCell' = true := by
  intro v hv; simp at hv; rcases hv with rfl | rfl | rfl | rfl | rfl <;> rfl
theorem share_one {a b : Nat} : ∀ v ∈ (#[.int .u64 a, .int .u64 b] : Array Value).toList, v.oneCell' = true := by
  intro v hv; simp at hv; rcases hv with rfl | rfl <;> rfl

theorem At5.alloc {w : World} {B a1 b1 a2 b2 : Nat} {t : Bool} (h : At5 w B a1 b1 a2 b2 t) (o : Obj) : At5 (w.alloc o) B a1 b1 a2 b2 t := by
  unfold At5; rw [Below.heap_alloc _ _ _ (lt_of_block h)]; exact h
theorem At2.alloc {w : World} {B a b : Nat} (h : At2 w B a b) (o : Obj) : At2 (w.alloc o) B a b := by
  unfold At2; rw [Below.heap_alloc _ _ _ (lt_of_block h)]; exact h
theorem At5.only {w w' : World} {B C a1 b1 a2 b2 : Nat} {t : Bool} (h : At5 w B a1 b1 a2 b2 t) (ho : Only C w w') (hne : B ≠ C) : At5 w' B a1 b1 a2 b2 t := by
  unfold At5; rw [ho.block B hne]; exact h
theorem At2.only {w w' : World} {B C a b : Nat} (h : At2 w B a b) (ho : Only C w w') (hne : B ≠ C) : At2 w' B a b := by
  unfold At2; rw [ho.block B hne]; exact h
theorem At5.cells {w : World} {B a1 b1 a2 b2 : Nat} {t : Bool} (h : At5 w B a1 b1 a2 b2 t) :
    w.cell? ⟨B, 0, none⟩ = some (.int .u64 a1) ∧ w.cell? ⟨B, 1, none⟩ = some (.int .u64 b1) ∧ w.cell? ⟨B, 2, none⟩ = some (.int .u64 a2) ∧ w.cell? ⟨B, 3, none⟩ = some (.int .u64 b2) ∧ w.cell? ⟨B, 4, none⟩ = some (.bool t) := by
  have h' : w.heap[B]? = some (.cells #[.int .u64 a1, .int .u64 b1, .int .u64 a2, .int .u64 b2, .bool t] 135 (0, 0)) := h
  simp [World.cell?, h']
theorem At5.free {w : World} {B a1 b1 a2 b2 : Nat} {t : Bool} (h : At5 w B a1 b1 a2 b2 t) (j : Nat) : w.frozen? ⟨B, j, none⟩ = false := by
  have h' : w.heap[B]? = some (.cells #[.int .u64 a1, .int .u64 b1, .int .u64 a2, .int .u64 b2, .bool t] 135 (0, 0)) := h
  simp [World.frozen?, h']
theorem At2.cells {w : World} {B a b : Nat} (h : At2 w B a b) : w.cell? ⟨B, 0, none⟩ = some (.int .u64 a) ∧ w.cell? ⟨B, 1, none⟩ = some (.int .u64 b) := by
  have h' : w.heap[B]? = some (.cells #[.int .u64 a, .int .u64 b] 133 (0, 0)) := h
  simp [World.cell?, h']
theorem At2.free {w : World} {B a b : Nat} (h : At2 w B a b) (j : Nat) : w.frozen? ⟨B, j, none⟩ = false := by
  have h' : w.heap[B]? = some (.cells #[.int .u64 a, .int .u64 b] 133 (0, 0)) := h
  simp [World.frozen?, h']

def mulN (q a : Nat) : Nat := q * a
def maN (c q a : Nat) : Nat := c + q * a
theorem mulN_wrap {c q a : Nat} (h : maN c q a < 18446744073709551616) : IntKind.u64.wrap ((q : Int) * (a : Int)) = (mulN q a : Int) := by
  have e : (q : Int) * (a : Int) = (mulN q a : Int) := by unfold mulN; simp
  rw [e]; unfold maN at h; unfold mulN; exact IntWalk.u64_in _ (by omega)
theorem maN_wrap {c q a : Nat} (h : maN c q a < 18446744073709551616) : IntKind.u64.wrap ((c : Int) + (mulN q a : Int)) = (maN c q a : Int) := by
  have e : (c : Int) + (mulN q a : Int) = (maN c q a : Int) := by unfold mulN maN; simp
  rw [e]; exact IntWalk.u64_in _ (by omega)

/-- What findLeap gives. -/
def LeapPost (w : World) (a b : Nat) (e : Ending) (w' : World) : Prop :=
  (∃ (a1 b1 a2 b2 : Nat) (t : Bool), e = .returned (leapV a1 b1 a2 b2 t) ∧ (b1 ≠ 0 → LeapOk a b a1 b1 a2 b2 t)) ∧ Below w.heap.size w w'

theorem top_le {l m : List Nat} {n : Nat} (hl : l.length = n) (hm : m.length ≤ n) (hn : 0 < n) (hw : Ws l) (hle : val m ≤ val l) : nth m (n - 1) ≤ nth l (n - 1) := by
  have e1 : val l = pv l 0 (n - 1) + 4294967296 ^ (n - 1) * nth l (n - 1) := by
    have := pv_succ l 0 (n - 1)
    rwa [Nat.sub_add_cancel hn, Nat.zero_add, pv_eq_val hl] at this
  have e2 : val m = pv m 0 (n - 1) + 4294967296 ^ (n - 1) * nth m (n - 1) := by
    have := pv_succ m 0 (n - 1)
    rwa [Nat.sub_add_cancel hn, Nat.zero_add, pv_all hm] at this
  have h1 := pv_lt hw 0 (n - 1)
  apply Nat.le_of_lt_succ
  apply Nat.lt_of_mul_lt_mul_left (a := 4294967296 ^ (n - 1))
  rw [Nat.mul_succ]
  omega

/-- The heads of two numbers: where a leap begins. -/
theorem heads_start {l m : List Nat} {x y n s : Nat} (hx : l = digs x) (hy : m = digs y) (hn : l.length = n) (hm : m.length ≤ n) (h3 : 3 ≤ n) (hs : s < 32) (hle : y ≤ x) (htop : nth l (n - 1) * 2 ^ s < 4294967296) :
    nth m (n - 1) * 2 ^ s < 4294967296 ∧ headN l n s < 18446744073709551616 ∧ headN m n s < 18446744073709551616 ∧ headN m n s ≤ headN l n s ∧ ∃ D a' b', x = headN l n s * D + a' ∧ y = headN m n s * D + b' ∧ a' < D ∧ b' < D := by
  have hl : Ws l := by rw [hx]; exact ws_digs _
  have hmw : Ws m := by rw [hy]; exact ws_digs _
  have vl : val l = x := by rw [hx, val_digs]
  have vm : val m = y := by rw [hy, val_digs]
  have ht := top_le hn hm (by omega) hl (by omega)
  have htm : nth m (n - 1) * 2 ^ s < 4294967296 := Nat.lt_of_le_of_lt (Nat.mul_le_mul_right _ ht) htop
  obtain ⟨a', ha, haD⟩ := headN_val hl hs h3 (by omega)
  obtain ⟨b', hb, hbD⟩ := headN_val hmw hs h3 hm
  rw [vl] at ha
  rw [vm] at hb
  exact ⟨htm, (headN_parts hl hs htop).2.2.2, (headN_parts hmw hs htm).2.2.2, heads_le ha hb haD hle, _, a', b', ha, hb, haD, hbD⟩

set_option maxRecDepth 100000 in
set_option maxHeartbeats 1000000 in
theorem findLeap_c {w : World} {u v : Value} {l m : List Nat} {x y : Nat} (hx : l = digs x) (hy : m = digs y) (hu : IsW w u l) (hv : IsW w v m) (h3 : 3 ≤ m.length) (hle : y ≤ x) :
    Calls Tryz.prog 124 #[u, v] w (LeapPost w x y) := by
  have HX := Lib.hid hx
  have HY := Lib.hid hy
  have HU := Lib.hid hu
  have HV := Lib.hid hv
  have hml : m.length ≤ l.length := by rw [hx, hy]; exact len_digs_mono hle
  have hl2 := hu.len
  have HLE := Lib.hid hle
  have htop : nth l (l.length - 1) ≠ 0 := nth_last (by rw [hx]; exact norm_digs _) (by intro e; rw [e] at hml; simp at hml; subst hml; simp at h3)
  have HT := Lib.hid htop
  obtain ⟨a, cap, rfl, i1, i2, i3, i4, i5⟩ := hu
  clear i3 i4 i5 hx hy htop hv hle
  go_enter Tryz.func124, Tryz.ntmps124
  go_wp2_with fail
  have HB0 : Hid (Below w.heap.size w (w.alloc (Obj.cells #[Value.int IntKind.u64 0, Value.int IntKind.u64 0, Value.int IntKind.u64 0, Value.int IntKind.u64 0, Value.bool false] 135))) := Lib.hid ((Below.refl _ _).alloc (Nat.le_refl _) _)
  refine (leadingZeros_l (HU.out.below HB0.out) (by omega) HT.out).mono ?_
  rintro en w1 ⟨⟨s, rfl, hs, hlo, hhi⟩, rfl⟩
  obtain ⟨n, hn⟩ : ∃ n, n = l.length := ⟨_, rfl⟩
  have HH := Lib.hid (heads_start HX.out HY.out hn.symm (by omega) (by omega) hs HLE.out (by rw [hn]; exact hhi))
  have HHI : Hid (nth l (n - 1) * 2 ^ s < 4294967296) := Lib.hid (by rw [hn]; exact hhi)
  have hn3 : 3 ≤ n := by omega
  have hn4 : n ≤ 1073741824 := by omega
  rw [← hn]
  have HNL := Lib.hid hn
  clear hlo hhi hn
  go_wp2_with fail
  have hC1 := Lib.hid (head_l (HU.out.below HB0.out) hs hn3 hn4 HHI.out)
  rw [← HNL.out] at hC1
  refine hC1.out.mono ?_
  rintro en w1 ⟨rfl, q1, rfl⟩
  go_wp2_with fail
  refine (head_l ((HV.out.below HB0.out).drewN q1) hs hn3 hn4 HH.out.1).mono ?_
  rintro en w2 ⟨rfl, q2, rfl⟩
  obtain ⟨X0, hX0⟩ : ∃ X0, X0 = headN l n s := ⟨_, rfl⟩
  obtain ⟨Y0, hY0⟩ : ∃ Y0, Y0 = headN m n s := ⟨_, rfl⟩
  have HP := HH.out.2
  rw [← hX0, ← hY0] at HP ⊢
  obtain ⟨hXb, hYb, hYX, D, a', b', hxD, hyD, haD, hbD⟩ := HP
  have HXD := Lib.hid hxD
  have HYD := Lib.hid hyD
  have HD := Lib.hid (And.intro haD hbD)
  clear hC1 hX0 hY0 hxD hyD haD hbD HH
  go_wp2_with fail
  go_loopw [6, 7] (fun xs ys wr => ∃ (xc yc A1 B1 A2 B2 A3 B3 : Nat) (t : Bool), xs = .int .u64 xc ∧ ys = .int .u64 yc ∧ xc < 18446744073709551616 ∧ yc ≤ xc ∧ At5 wr (w.heap.size + 1) A1 B1 A2 B2 t ∧ At2 wr (w.heap.size + 1 + 1) A3 B3 ∧ At5 wr w.heap.size 0 0 0 0 false ∧
    Hid (Below w.heap.size w wr) ∧ Hid (w.heap.size + 1 + 1 < wr.heap.size) ∧ Hid (LeapInv x y X0 Y0 (sgn t) xc yc A2 B2 A3 B3) ∧ Hid (B1 ≠ 0 → LeapOk x y A1 B1 A2 B2 t)) (fun _ ys _ => (intOf ys).toNat)
  case atStart =>
    refine ⟨X0, Y0, 0, 0, 1, 0, 0, 1, true, rfl, rfl, hXb, hYX, ?_, ?_, ?_, Lib.hid ?_, Lib.hid (by simp), Lib.hid (leap_init hYX), Lib.hid (fun h => absurd rfl h)⟩
    · refine At5.alloc ?_ _
      have h9 := heap_alloc_new ((w.alloc (Obj.cells #[Value.int IntKind.u64 0, Value.int IntKind.u64 0, Value.int IntKind.u64 0, Value.int IntKind.u64 0, Value.bool false] 135)).drewN (q1 + q2)) (Obj.cells #[Value.int IntKind.u64 0, Value.int IntKind.u64 0, Value.int IntKind.u64 1, Value.int IntKind.u64 0, Value.bool true] 135)
      simpa [At5] using h9
    · have h9 := heap_alloc_new (((w.alloc (Obj.cells #[Value.int IntKind.u64 0, Value.int IntKind.u64 0, Value.int IntKind.u64 0, Value.int IntKind.u64 0, Value.bool false] 135)).drewN (q1 + q2)).alloc (Obj.cells #[Value.int IntKind.u64 0, Value.int IntKind.u64 0, Value.int IntKind.u64 1, Value.int IntKind.u64 0, Value.bool true] 135)) (Obj.cells #[Value.int IntKind.u64 0, Value.int IntKind.u64 1] 133)
      simpa [At2] using h9
    · refine At5.alloc (At5.alloc ?_ _) _
      have h9 := heap_alloc_new w (Obj.cells #[Value.int IntKind.u64 0, Value.int IntKind.u64 0, Value.int IntKind.u64 0, Value.int IntKind.u64 0, Value.bool false] 135)
      simpa [At5] using h9
    · exact ((below_drewN HB0.out _).alloc (by simp) _).alloc (by simp; omega) _
  case round =>
    obtain ⟨xc, yc, A1, B1, A2, B2, A3, B3, t, rfl, rfl, hxc, hyx, h5, h2, h0, hbel, hsz, hinv, hok⟩ := hrel
    obtain ⟨l0, l1, l2, l3, l4⟩ := h5.cells
    obtain ⟨s0, s1⟩ := h2.cells
    by_cases c1 : B3 ≤ yc
    · have d1 : decide (B3 ≤ yc) = true := by simpa using c1
      have hsm := leap_small hinv.out (by omega) (by omega)
      have hmono := hinv.out.mono
      have hB3 : B3 < 4294967296 := by omega
      have hB2 : B2 < 4294967296 := by omega
      clear hsm hmono
      by_cases c2 : B2 + B3 ≤ xc - yc
      · have d2 : decide ((B2 : Int) + (B3 : Int) ≤ (xc : Int) - (yc : Int)) = true := by simp; omega
        have hy1 : 0 < yc := by have := hinv.out.b3; omega
        have hnext := Lib.hid (leap_step hinv.out HXD.out HYD.out HD.out.1 HD.out.2 c1 c2)
        have hroom := leap_room hinv.out hXb hy1 hnext.out
        have hok' := Lib.hid (fun h => leap_ok hinv.out HXD.out HYD.out HD.out.1 HD.out.2 hXb c1 c2 h)
        have hrm : Hid (remW xc yc < yc) := Lib.hid (Nat.mod_lt _ hy1)
        have w1 := quoW_wrap xc yc hxc
        have w2 : (xc : Int).tmod (yc : Int) = (remW xc yc : Int) := by rw [Int.tmod_eq_emod_of_nonneg (by omega)]; rfl
        have w3 := mulN_wrap (c := A2) (q := quoW xc yc) (a := A3) hroom.2
        have w4 := maN_wrap (c := A2) (q := quoW xc yc) (a := A3) hroom.2
        have w5 := mulN_wrap (c := B2) (q := quoW xc yc) (a := B3) hroom.1
        have w6 := maN_wrap (c := B2) (q := quoW xc yc) (a := B3) hroom.1
        clear hroom
        go_wp2_with fail
        go_quiet (fail)
        go_wp2_with ((with_reducible refine at_store ?_); refine wpList_store_var rfl _ _ _ rfl wr.heap.size rfl _ rfl _ _ (heap_alloc_new _ _) ishare rfl share_one ?_; intro w8 h8 hon8; refine halt ?_)
        have h58 := (At5.alloc (w := wr.drewN nq) h5 _).only hon8 (by have := hsz.out; omega)
        have h28 := (At2.alloc (w := wr.drewN nq) h2 _).only hon8 (by have := hsz.out; omega)
        have h08 := (At5.alloc (w := wr.drewN nq) h0 _).only hon8 (by have := hsz.out; omega)
        have hb8 := Lib.hid (below_only ((below_drewN hbel.out nq).alloc (by have := hsz.out; simp; omega) _) hon8 (by have := hsz.out; omega))
        have hb8s : Hid (wr.heap.size ≤ w8.heap.size) := Lib.hid (by have := hon8.size; simp at this; omega)
        clear l0 l1 l2 l3 l4 s0 s1 h5 h2 h0 hon8
        refine go_on ?_
        obtain ⟨l0, l1, l2, l3, l4⟩ := h58.cells
        obtain ⟨s0, s1⟩ := h28.cells
        go_wp2_with ((with_reducible refine at_store ?_); refine wpList_store_var rfl _ _ _ rfl (w.heap.size + 1) rfl _ rfl _ _ h58 ileap rfl leap_one ?_; intro w9 h9 hon9; refine halt ?_)
        refine go_on ?_
        have h29 := h28.only hon9 (by omega)
        have hN9 : At2 w9 (wr.heap.size) (maN A2 (quoW xc yc) A3) (maN B2 (quoW xc yc) B3) := At2.only h8 hon9 (by have := hsz.out; omega)
        obtain ⟨n0, n1⟩ := hN9.cells
        clear l0 l1 l2 l3 l4 s0 s1
        go_wp2_with ((with_reducible refine at_store ?_); refine wpList_store_var rfl _ _ _ rfl (w.heap.size + 1 + 1) rfl _ rfl _ _ h29 ishare rfl share_one ?_; intro w10 h10 hon10; refine halt ?_)
        refine go_on ?_
        clear n0 n1
        go_wp2_with fail
        go_roundw
        case rel =>
          have hb10 := below_only (below_only hb8.out hon9 (by omega)) hon10 (by omega)
          refine ⟨yc, remW xc yc, A2, B2, A3, B3, maN A2 (quoW xc yc) A3, maN B2 (quoW xc yc) B3, !t, rfl, rfl, by omega, Nat.le_of_lt hrm.out, At5.only (B := w.heap.size + 1) h9 hon10 (by omega), h10, (h08.only hon9 (by omega)).only hon10 (by omega), Lib.hid hb10, Lib.hid (by have := hsz.out; have := hb8s.out; have := hon9.size; have := hon10.size; omega), hnext, hok'⟩
        case measure => simp [intOf]; have := hrm.out; omega
      · have d2 : decide ((B2 : Int) + (B3 : Int) ≤ (xc : Int) - (yc : Int)) = false := by simp; omega
        go_wp2_with ((with_reducible refine at_store ?_); refine wpList_store_var rfl _ _ _ rfl w.heap.size rfl _ rfl _ _ h0 ileap rfl leap_one ?_; intro w9 h9 hon9; refine halt ?_)
        refine go_on ?_
        go_wp2_with fail
        exact bodyPost_ret (results_cell_row rfl _ _ w.heap.size _ _ _ _ rfl h9 Tryz.underlying135 rfl ileap) rfl ⟨⟨A1, B1, A2, B2, t, rfl, hok.out⟩, below_only hbel.out hon9 (Nat.le_refl _)⟩
    · have d1 : decide (B3 ≤ yc) = false := by simpa using c1
      go_wp2_with ((with_reducible refine at_store ?_); refine wpList_store_var rfl _ _ _ rfl w.heap.size rfl _ rfl _ _ h0 ileap rfl leap_one ?_; intro w9 h9 hon9; refine halt ?_)
      refine go_on ?_
      go_wp2_with fail
      exact bodyPost_ret (results_cell_row rfl _ _ w.heap.size _ _ _ _ rfl h9 Tryz.underlying135 rfl ileap) rfl ⟨⟨A1, B1, A2, B2, t, rfl, hok.out⟩, below_only hbel.out hon9 (Nat.le_refl _)⟩
end Go.Proofs.YtafenoohjcpjgaaGreat
