/- Several texts in one: Wa, Wb, Wd, We. -/
import Derived.Test.YtafenoohjcpjgaaGreatZ1
import Derived.Test.YtafenoohjcpjgaaGreatRows
import Derived.BigQuiet
import Derived.Deep.QuietTactic
/- The small functions of words that only read. -/
namespace Go.Proofs.YtafenoohjcpjgaaGreat
open Go.RowKit

theorem ret_bool {a b : Bool} (h : a = b) : Ending.returned (.bool a) = .returned (.bool b) := by rw [h]
theorem ret_int {k : IntKind} {a b : Int} (h : a = b) : Ending.returned (.int k a) = .returned (.int k b) := by rw [h]
set_option maxHeartbeats 400000 in
theorem isZero_l (a : Option Addr) (n cap : Nat) (w : World) :
    Calls Tryz.prog 97 #[.slice a n cap] w fun e w' => e = .returned (.bool (decide (n = 0))) ∧ w = w' := by
  go_enter Tryz.func97, Tryz.ntmps97
  go_wp2
  go_ret
  exact ⟨ret_bool (by cases n <;> simp <;> omega), rfl⟩

set_option maxHeartbeats 400000 in
theorem isOne_l (a : Option Addr) (n cap : Nat) (w : World) (x : Nat) (hc : n = 1 → ∃ b off, a = some ⟨b, off, none⟩ ∧ w.cell? ⟨b, off, none⟩ = some (.int .u32 x)) :
    Calls Tryz.prog 99 #[.slice a n cap] w fun e w' => e = .returned (.bool (decide (n = 1 ∧ x = 1))) ∧ w = w' := by
  by_cases hn : n = 1
  · subst hn
    obtain ⟨b, off, rfl, hc1⟩ := hc rfl
    have hc2 : w.cell? ⟨b, off + 0, none⟩ = some (.int .u32 x) := hc1
    clear hc
    go_enter Tryz.func99, Tryz.ntmps99
    go_wp2
    go_ret
    exact ⟨ret_bool (by rw [Bool.eq_iff_iff]; simp; omega), rfl⟩
  · have hn1 : ((n : Int) == 1) = false := by simp; omega
    clear hc
    go_enter Tryz.func99, Tryz.ntmps99
    go_wp2
    go_ret
    exact ⟨ret_bool (by simp [hn]), rfl⟩

/-- What 'order' tells. -/
def ordI (x y : Int) : Int := if x < y then -1 else 1

set_option maxHeartbeats 400000 in
theorem order_any (x y : Int) (w : World) :
    Calls Tryz.prog 145 #[.int .i64 x, .int .i64 y] w fun e w' => e = .returned (.int .i64 (ordI x y)) ∧ w = w' := by
  go_enter Tryz.func145, Tryz.ntmps145
  go_wp2
  all_goals
    go_ret
    exact ⟨ret_int (by simp [ordI, *]), rfl⟩

set_option maxHeartbeats 400000 in
theorem short_l (a : Option Addr) (n cap : Nat) (w : World) :
    Calls Tryz.prog 123 #[.slice a n cap] w fun e w' => e = .returned (.bool (decide (n ≤ 2))) ∧ w = w' := by
  go_enter Tryz.func123, Tryz.ntmps123
  go_wp2
  go_ret
  exact ⟨ret_bool (by simp; omega), rfl⟩

set_option maxHeartbeats 400000 in
theorem at_in (b off n cap i : Nat) (x : Nat) (w : World) (hi : i < n)
   (hc : w.cell? ⟨b, off + i, none⟩ = some (.int .u32 x)) (hx : x < 4294967296) :
    Calls Tryz.prog 152 #[.slice (some ⟨b, off, none⟩) n cap, .int .i64 i] w fun e w' => e = .returned (.int .u64 x) ∧ w = w' := by
  go_enter Tryz.func152, Tryz.ntmps152
  go_wp2
  go_ret
  exact ⟨rfl, rfl⟩
set_option maxHeartbeats 400000 in
theorem at_out (a : Option Addr) (n cap i : Nat) (w : World) (hi : n ≤ i) :
    Calls Tryz.prog 152 #[.slice a n cap, .int .i64 i] w fun e w' => e = .returned (.int .u64 0) ∧ w = w' := by
  go_enter Tryz.func152, Tryz.ntmps152
  go_wp2
  go_ret
  exact ⟨rfl, rfl⟩

/-- The word at a place, 0 behind the last one. -/
theorem at_w {w : World} {v : Value} {l : List Nat} (h : IsW w v l) (i : Nat) :
    Calls Tryz.prog 152 #[v, .int .i64 i] w fun e w' => e = .returned (.int .u64 (nth l i)) ∧ w = w' := by
  obtain ⟨a, cap, rfl, h1, h2, h3, h4, h5⟩ := id h
  by_cases hi : i < l.length
  · obtain ⟨b, off, rfl, hlt, hc⟩ := h4 (by intro e; simp at e; subst e; simp at hi)
    exact at_in b off _ cap i _ w hi (h.cell i hi) (ws_nth h3 i)
  · rw [nth_out (by omega)]
    exact at_out a _ cap i w (by omega)

/-- Tests as names that the walk leaves standing. -/
def nilB (l : List Nat) : Bool := decide (l.length = 0)
def zerB (x : Nat) : Bool := decide (x = 0)
def oneB (x : Nat) : Bool := decide (x = 1)
def shortB (l : List Nat) : Bool := decide (l.length ≤ 2)
theorem zerB_true {x : Nat} (h : x = 0) : zerB x = true := by simp [zerB, h]
theorem zerB_false {x : Nat} (h : x ≠ 0) : zerB x = false := by simp [zerB, h]
theorem oneB_true {x : Nat} (h : x = 1) : oneB x = true := by simp [oneB, h]
theorem oneB_false {x : Nat} (h : x ≠ 1) : oneB x = false := by simp [oneB, h]
theorem shortB_true {l : List Nat} (h : l.length ≤ 2) : shortB l = true := by simp [shortB, h]
theorem shortB_false {l : List Nat} (h : ¬ l.length ≤ 2) : shortB l = false := by simp [shortB]; omega

theorem isZero_v {w : World} {v : Value} {l : List Nat} (h : IsW w v l) :
    Calls Tryz.prog 97 #[v] w fun e w' => e = .returned (.bool (nilB l)) ∧ w = w' := by
  obtain ⟨a, cap, rfl, h1, h2, h3, h4, h5⟩ := h
  exact isZero_l a _ cap w

theorem isZero_w {w : World} {v : Value} {x : Nat} (h : IsW w v (digs x)) :
    Calls Tryz.prog 97 #[v] w fun e w' => e = .returned (.bool (zerB x)) ∧ w = w' := by
  obtain ⟨a, cap, rfl, h1, h2, h3, h4, h5⟩ := h
  refine (isZero_l a _ cap w).mono ?_
  rintro e w' ⟨rfl, rfl⟩
  refine ⟨ret_bool ?_, rfl⟩
  unfold zerB
  congr 1
  exact propext ⟨fun e => digs_eq_nil.1 (List.eq_nil_of_length_eq_zero e), fun e => by rw [e, digs_zero]; rfl⟩

theorem one_of_digs {x : Nat} : ((digs x).length = 1 ∧ nth (digs x) 0 = 1) ↔ x = 1 := by
  constructor
  · rintro ⟨h1, h2⟩
    have h0 := val_digs x
    obtain ⟨y, hy⟩ := List.length_eq_one_iff.1 h1
    rw [hy] at h0 h2
    simp [val, nth] at h0 h2
    omega
  · rintro rfl
    rw [digs_pos (by omega), show 1 / 4294967296 = 0 from rfl, digs_zero]
    exact ⟨rfl, rfl⟩

theorem isOne_w {w : World} {v : Value} {x : Nat} (h : IsW w v (digs x)) :
    Calls Tryz.prog 99 #[v] w fun e w' => e = .returned (.bool (oneB x)) ∧ w = w' := by
  obtain ⟨a, cap, rfl, h1, h2, h3, h4, h5⟩ := id h
  refine (isOne_l a _ cap w (nth (digs x) 0) ?_).mono ?_
  · intro hn
    obtain ⟨b, off, rfl, hlt, hc⟩ := h4 (by intro e; simp at e; rw [e] at hn; simp at hn)
    exact ⟨b, off, rfl, h.cell 0 (by omega)⟩
  · rintro e w' ⟨rfl, rfl⟩
    refine ⟨ret_bool ?_, rfl⟩
    unfold oneB
    congr 1
    exact propext one_of_digs

theorem short_w {w : World} {v : Value} {l : List Nat} (h : IsW w v l) :
    Calls Tryz.prog 123 #[v] w fun e w' => e = .returned (.bool (shortB l)) ∧ w = w' := by
  obtain ⟨a, cap, rfl, h1, h2, h3, h4, h5⟩ := h
  exact short_l a _ cap w

/-! ### Bits -/
theorem u64_join (x y : Nat) (hx : x < 4294967296) (hy : y < 4294967296) : bits .or .u64 ((x : Int) * 4294967296) y = ((x * 4294967296 + y : Nat) : Int) := by
  have h1 := u64_or_nat (x * 4294967296) y (by omega) (by omega)
  have h2 : x * 4294967296 ||| y = x * 4294967296 + y := by
    have := Nat.two_pow_add_eq_or_of_lt (i := 32) (b := y) (by simpa using hy) x
    rw [show (2 : Nat) ^ 32 = 4294967296 from rfl, Nat.mul_comm] at this
    exact this.symm
  rw [h2] at h1
  rw [← h1]
  congr 1

theorem u64_shl32 (x : Nat) (hx : x < 4294967296) : IntKind.u64.wrap ((x : Int) * 4294967296) = (x : Int) * 4294967296 :=
  IntWalk.u64_in _ (by omega)

set_option maxHeartbeats 400000 in
theorem value_w {w : World} {v : Value} {l : List Nat} (h : IsW w v l) (hl : l.length ≤ 2) :
    Calls Tryz.prog 130 #[v] w fun e w' => e = .returned (.int .u64 (val l)) ∧ w = w' := by
  have b0 := ws_nth h.ws 0
  have b1 := ws_nth h.ws 1
  have hv : val l = nth l 1 * 4294967296 + nth l 0 := by
    have e1 := val_take_succ l 1
    have e0 := val_take_succ l 0
    rw [val_take_all (by omega)] at e1
    simp only [Nat.zero_add, val_take_zero, Nat.pow_one, Nat.pow_zero] at e1 e0
    omega
  have Hv := Lib.hid hv
  clear hv
  go_enter Tryz.func130, Tryz.ntmps130
  go_wp2_with fail
  refine (at_w h 1).mono ?_
  rintro e w' ⟨rfl, rfl⟩
  go_wp2_with fail
  refine (at_w h 0).mono ?_
  rintro e w' ⟨rfl, rfl⟩
  go_wp2_with fail
  go_ret
  refine ⟨ret_int ?_, rfl⟩
  rw [u64_join _ _ b1 b0, Hv.out]

set_option maxHeartbeats 400000 in
theorem trim_x {w : World} {a : Option Addr} {cap : Nat} {l : List Nat} (h : IsW w (.slice a l.length cap) l) :
    Calls Tryz.prog 150 #[.slice a l.length cap] w fun e w' => e = .returned (.slice a (digs (val l)).length (digs (val l)).length) ∧ w = w' := by
  obtain ⟨a', cap', hv, h1, h2, h3, h4, h5⟩ := id h
  cases hv
  have H4 := Lib.hid h4
  have H := Lib.hid h
  clear h h4 h5
  go_enter Tryz.func150, Tryz.ntmps150
  go_wp2
  go_loop [3] (fun n => ∃ k : Nat, k ≤ l.length ∧ n = .int .i64 k ∧ Hid (val (l.take k) = val l)) (fun n => (intOf n).toNat)
  case atStart => exact ⟨l.length, Nat.le_refl _, rfl, Lib.hid (by rw [List.take_length])⟩
  case round =>
    obtain ⟨k, hk, rfl, hv⟩ := hrel
    by_cases hk0 : 0 < k
    · obtain ⟨b, off, rfl, hlt, hc0⟩ := H4.out (by intro e; simp at e; subst e; simp at hk; omega)
      have hc := H.out.cell (k - 1) (by omega)
      clear hc0
      by_cases hz : nth l (k - 1) = 0
      · have hz' : ((nth l (k - 1) : Int) == 0) = true := by simp [hz]
        have hzH := Lib.hid hz
        clear hz
        go_wp2
        go_round
        case rel =>
          refine ⟨k - 1, by omega, by go_num, Lib.hid ?_⟩
          rw [← hv.out, show k = k - 1 + 1 from by omega, val_take_succ, Nat.add_sub_cancel, hzH.out]
          simp
        case measure => simp [intOf]; omega
      · have hz' : ((nth l (k - 1) : Int) == 0) = false := by simp [hz]
        have hzH := Lib.hid hz
        clear hz
        go_wp2
        go_ret
        exact ⟨by rw [digs_take h3 hk (Or.inr hzH.out) hv.out, List.length_take, Nat.min_eq_left hk]; rfl, rfl⟩
    · have hk0' : k = 0 := by omega
      subst hk0'
      go_wp2
      go_ret
      exact ⟨by rw [digs_take h3 hk (Or.inl rfl) hv.out]; rfl, rfl⟩

theorem IsW.trim {w : World} {a : Option Addr} {cap : Nat} {l : List Nat} (h : IsW w (.slice a l.length cap) l) : IsW w (.slice a (digs (val l)).length (digs (val l)).length) (digs (val l)) := by
  have hw := h.ws
  have hle := len_digs_val hw
  have e := digs_prefix hw
  have := h.take (digs (val l)).length (digs (val l)).length hle (Nat.le_refl _)
  rwa [← e] at this

theorem trim_w {w : World} {v : Value} {l : List Nat} (h : IsW w v l) :
    Calls Tryz.prog 150 #[v] w fun e w' => (∃ v', e = .returned v' ∧ IsW w v' (digs (val l)) ∧ (∀ b, v'.ownBlock = some b → v.ownBlock = some b)) ∧ w = w' := by
  obtain ⟨a, cap, rfl, h1, h2, h3, h4, h5⟩ := id h
  refine (trim_x h).mono ?_
  rintro e w' ⟨rfl, rfl⟩
  exact ⟨⟨_, rfl, h.trim, fun b hb => by
    cases a with
    | none => simp [Value.ownBlock] at hb
    | some x => simpa [Value.ownBlock] using hb⟩, rfl⟩

/-- The same, of words that are canonical but for zero words that stand last. -/
theorem trim_d {w : World} {v : Value} {l : List Nat} {x : Nat} (h : IsW w v l) (hx : val l = x) :
    Calls Tryz.prog 150 #[v] w fun e w' => (∃ v', e = .returned v' ∧ IsW w v' (digs x) ∧ (∀ b, v'.ownBlock = some b → v.ownBlock = some b)) ∧ w = w' := by
  subst hx; exact trim_w h

set_option maxHeartbeats 400000 in
theorem trimmed_l (a : Option Addr) (n cap : Nat) (w : World) (x : Nat) (hn : n ≤ 1073741824) (hc : n ≠ 0 → ∃ b off, a = some ⟨b, off, none⟩ ∧ w.cell? ⟨b, off + (n - 1), none⟩ = some (.int .u32 x)) :
    Calls Tryz.prog 96 #[.slice a n cap] w fun e w' => e = .returned (.bool (decide (n = 0 ∨ x ≠ 0))) ∧ w = w' := by
  by_cases h0 : n = 0
  · subst h0
    clear hc
    go_enter Tryz.func96, Tryz.ntmps96
    go_wp2
    go_ret
    exact ⟨ret_bool (by simp), rfl⟩
  · obtain ⟨b, off, rfl, hc1⟩ := hc h0
    have hn1 : ((n : Int) == 0) = false := by simp; omega
    have hn2 : 0 < n := by omega
    clear hc
    go_enter Tryz.func96, Tryz.ntmps96
    go_wp2
    go_ret
    exact ⟨ret_bool (by rw [Bool.eq_iff_iff]; simp [h0]), rfl⟩

theorem norm_iff {l : List Nat} : Norm l ↔ (l.length = 0 ∨ nth l (l.length - 1) ≠ 0) := by
  constructor
  · intro h
    by_cases h0 : l = []
    · subst h0; simp
    · exact Or.inr (nth_last h h0)
  · intro h
    have := norm_take (l := l) (k := l.length) (Nat.le_refl _) h
    rwa [List.take_length] at this

instance (l : List Nat) : Decidable (Norm l) := decidable_of_iff _ norm_iff.symm

theorem trimmed_w {w : World} {v : Value} {l : List Nat} (h : IsW w v l) :
    Calls Tryz.prog 96 #[v] w fun e w' => e = .returned (.bool (decide (Norm l))) ∧ w = w' := by
  obtain ⟨a, cap, rfl, h1, h2, h3, h4, h5⟩ := id h
  refine (trimmed_l a _ cap w (nth l (l.length - 1)) h2 ?_).mono ?_
  · intro hn
    obtain ⟨b, off, rfl, hlt, hc⟩ := h4 (by intro e; simp at e; subst e; simp at hn)
    exact ⟨b, off, rfl, h.cell (l.length - 1) (by omega)⟩
  · rintro e w' ⟨rfl, rfl⟩
    refine ⟨ret_bool ?_, rfl⟩
    congr 1
    exact propext norm_iff.symm

/-- -1, 0, 1 as numbers stand. -/
def cmpN (x y : Nat) : Int := if x < y then -1 else if y < x then 1 else 0

theorem cmp_words {l m : List Nat} {k : Nat} (hl : Ws l) (hm : Ws m) (hlen : l.length = m.length) (hk : k < l.length) (hd : l.drop (k + 1) = m.drop (k + 1)) :
    (nth l k < nth m k → val l < val m) ∧ (nth m k < nth l k → val m < val l) := by
  have e1 := val_split l k (by omega)
  have e2 := val_split m k (by omega)
  have d1 := val_drop_succ l k
  have d2 := val_drop_succ m k
  have t1 := val_take_lt hl k
  have t2 := val_take_lt hm k
  rw [hd] at d1
  generalize val (List.drop (k + 1) m) = r at *
  generalize val (l.drop k) = p at *
  generalize val (m.drop k) = q at *
  constructor
  · intro h
    have : p + 1 ≤ q := by omega
    have := Nat.mul_le_mul_left (4294967296 ^ k) this
    rw [Nat.mul_add] at this
    omega
  · intro h
    have : q + 1 ≤ p := by omega
    have := Nat.mul_le_mul_left (4294967296 ^ k) this
    rw [Nat.mul_add] at this
    omega

set_option maxHeartbeats 400000 in
theorem compare_w {w : World} {u v : Value} {l m : List Nat} (hu : IsW w u l) (hv : IsW w v m) (hl : Norm l) (hm : Norm m) :
    Calls Tryz.prog 122 #[u, v] w fun e w' => e = .returned (.int .i64 (cmpN (val l) (val m))) ∧ (∃ n, w' = w.drewN n) := by
  obtain ⟨a, cap, rfl, h1, h2, h3, h4, h5⟩ := id hu
  obtain ⟨b, bcap, rfl, k1, k2, k3, k4, k5⟩ := id hv
  have H4 := Lib.hid h4
  have K4 := Lib.hid k4
  have HU := Lib.hid hu
  have HV := Lib.hid hv
  clear h4 k4 h5 k5 hu hv
  by_cases hlen : l.length = m.length
  · have hlen' : ((l.length : Int) != (m.length : Int)) = false := by simp [hlen]
    have HL := Lib.hid hlen
    clear hlen
    go_enter Tryz.func122, Tryz.ntmps122
    go_wp2
    go_loopw [5] (fun i wr => ∃ k : Nat, k ≤ l.length ∧ i = .int .i64 ((k : Int) - 1) ∧ Hid (l.drop k = m.drop k) ∧ ∃ n, wr = w.drewN n) (fun i _ => (intOf i + 1).toNat)
    case atStart => exact ⟨l.length, Nat.le_refl _, rfl, Lib.hid (by rw [List.drop_length, HL.out, List.drop_length]), 0, rfl⟩
    case round =>
      obtain ⟨k, hk, rfl, hd, n, rfl⟩ := hrel
      by_cases hk0 : 0 < k
      · obtain ⟨b1, off1, rfl, -, -⟩ := H4.out (by intro e; simp at e; subst e; simp at hk; omega)
        have hml : k ≤ m.length := by have := HL.out; omega
        obtain ⟨b2, off2, rfl, -, -⟩ := K4.out (by intro e; simp at e; subst e; simp at hml; omega)
        have hc1 := HU.out.cell (k - 1) (by omega)
        have hc2 := HV.out.cell (k - 1) (by have := HL.out; omega)
        have hcmp := Lib.hid (cmp_words (k := k - 1) h3 k3 HL.out (by omega) (by rw [Nat.sub_add_cancel hk0]; exact hd.out))
        rcases Nat.lt_trichotomy (nth l (k - 1)) (nth m (k - 1)) with hlt | heq | hgt
        · have hr : cmpN (val l) (val m) = -1 := by unfold cmpN; rw [if_pos (hcmp.out.1 hlt)]
          have HR := Lib.hid hr
          clear hr
          go_wp2
          go_quiet (fail)
          go_wp2
          go_ret
          exact ⟨ret_int (by rw [HR.out]), _, by simp only [World.drewN_drewN]; rfl⟩
        · have hd' : Hid (l.drop (k - 1) = m.drop (k - 1)) := Lib.hid (by
            have e1 : k - 1 + 1 = k := by omega
            rw [List.drop_eq_getElem_cons (show k - 1 < l.length by omega), List.drop_eq_getElem_cons (show k - 1 < m.length by omega), e1, hd.out, ← nth_getElem, ← nth_getElem, heq])
          have hge : ¬ nth l (k - 1) < nth m (k - 1) := by omega
          have hle : ¬ nth m (k - 1) < nth l (k - 1) := by omega
          clear heq
          go_wp2
          go_quiet (fail)
          go_wp2
          go_quiet (fail)
          go_wp2
          go_roundw
          case rel => exact ⟨k - 1, by omega, by go_num, hd', _, rfl⟩
          case measure => simp [intOf]; omega
        · have hr : cmpN (val l) (val m) = 1 := by unfold cmpN; rw [if_neg (by have := hcmp.out.2 hgt; omega), if_pos (hcmp.out.2 hgt)]
          have HR := Lib.hid hr
          clear hr
          have hge : ¬ nth l (k - 1) < nth m (k - 1) := by omega
          go_wp2
          go_quiet (fail)
          go_wp2
          go_quiet (fail)
          go_wp2
          go_ret
          exact ⟨ret_int (by rw [HR.out]), _, by simp only [World.drewN_drewN]; rfl⟩
      · have hk0' : k = 0 := by omega
        subst hk0'
        go_wp2
        go_ret
        refine ⟨ret_int ?_, _, rfl⟩
        have : l = m := by simpa using hd.out
        rw [this]; simp [cmpN]
  · have hlen' : ((l.length : Int) != (m.length : Int)) = true := by simp; omega
    go_enter Tryz.func122, Tryz.ntmps122
    go_wp2_with fail
    refine (order_any _ _ _).mono ?_
    rintro e w' ⟨rfl, rfl⟩
    go_wp2_with fail
    go_ret
    refine ⟨ret_int ?_, 0, rfl⟩
    unfold ordI cmpN
    rcases Nat.lt_or_ge l.length m.length with h | h
    · have := val_lt_of_len h3 hm (by rintro rfl; simp at h) h
      rw [if_pos (by omega), if_pos this]
    · have hlt : m.length < l.length := by omega
      have := val_lt_of_len k3 hl (by rintro rfl; simp at hlt) hlt
      rw [if_neg (by omega), if_neg (by omega), if_pos this]
end Go.Proofs.YtafenoohjcpjgaaGreat

/- The functions of words that make words of their own: sums, differences, shifts. -/
namespace Go.Proofs.YtafenoohjcpjgaaGreat
open Go.RowKit

theorem uw : Tryz.prog.underlying 85 = some (.slice 125) := Tryz.underlying85
theorem iu32 : (Tryz.prog.info? 125).map (fun i => (i.zero, i.size, i.bytes)) = some (some (.int .u32 0), 1, 4) := by kernel_rfl
theorem su32 : (Tryz.prog.info? 125).map (·.size) = some 1 := by kernel_rfl

set_option maxHeartbeats 400000 in
theorem clone_b {w : World} {v : Value} {l : List Nat} (h : IsW w v l) (hx : 0 < l.length) :
    Calls Tryz.prog 87 #[v] w fun e w' => e = .returned (.slice (some ⟨w.heap.size, 0, none⟩) l.length l.length) ∧ Blk w' w.heap.size 125 l ∧ Below w.heap.size w w' ∧ w'.heap.size = w.heap.size + 1 := by
  have hx' : nilB l = false := by simp [nilB]; intro e; subst e; simp at hx
  have hl := h.len
  obtain ⟨a, cap, rfl, h1, h2, h3, h4, h5⟩ := id h
  have H := Lib.hid h
  clear hx h3 h4 h5 h
  go_enter Tryz.func87, Tryz.ntmps87
  go_wp2_with fail
  refine (isZero_v H.out).mono ?_
  rintro e w' ⟨rfl, rfl⟩
  go_wp2_with (at_make; refine wpList_make_words rfl _ _ _ _ rfl uw iu32 l.length rfl rfl hl ?_; intro w1 hb1 hbel hs1; refine halt ?_)
  refine go_on ?_
  go_wp2_with ((with_reducible refine at_copy ?_); refine wpList_copy_words rfl (.tmp 9) (.tmp 10) _ _ rfl _ uw su32 _ 0 _ _ _ l _ _ rfl rfl (H.out.below hbel) hb1 (Nat.le_refl _) (by simp) ?_; intro w2 hb2 hon; refine halt ?_)
  refine go_on ?_
  go_wp2_with fail
  go_ret
  refine ⟨rfl, by simpa using hb2, below_only hbel hon (Nat.le_refl _), by rw [hon.size]; exact hs1.out⟩

set_option maxHeartbeats 400000 in
theorem clone_w {w : World} {v : Value} {l : List Nat} (h : IsW w v l) :
    Calls Tryz.prog 87 #[v] w fun e w' => (∃ v', e = .returned v' ∧ IsW w' v' l ∧ (∀ b, v'.ownBlock = some b → w.heap.size ≤ b)) ∧ Below w.heap.size w w' := by
  by_cases hx : l.length = 0
  · have hx' : nilB l = true := by simp [nilB, hx]
    obtain rfl : l = [] := List.eq_nil_of_length_eq_zero hx
    clear hx
    go_enter Tryz.func87, Tryz.ntmps87
    go_wp2_with fail
    refine (isZero_v h).mono ?_
    rintro e w' ⟨rfl, rfl⟩
    go_wp2_with fail
    go_ret
    exact ⟨⟨.slice none 0 0, rfl, IsW.nil _, by simp [Value.ownBlock]⟩, Below.refl _ _⟩
  · refine (clone_b h (by omega)).mono ?_
    rintro e w' ⟨rfl, hb, hbel, -⟩
    exact ⟨⟨_, rfl, hb.isW_all h.ws _ (Nat.le_refl _) h.len, fun b hb => by simp [Value.ownBlock] at hb; omega⟩, hbel⟩

set_option maxHeartbeats 400000 in
theorem increase_w {w : World} {B off n cap : Nat} {e : TypeId} {vb : Value} {L lb : List Nat} (hL : Blk w B e L) (hw : Ws L) (hn : off + n ≤ L.length) (hlen : L.length ≤ 2147483648)
    (hb : IsW w vb lb) (hne : lb ≠ [] → vb.ownBlock ≠ some B) :
    Calls Tryz.prog 168 #[.slice (some ⟨B, off, none⟩) n cap, vb] w fun en w' => en = .returned (.tuple #[]) ∧
      ∃ L', Blk w' B e L' ∧ Ws L' ∧ L'.length = L.length ∧ Only B w w' ∧ (∀ j, (j < off ∨ off + n ≤ j) → nth L' j = nth L j) ∧ pv L' off n = (pv L off n + val lb) % 4294967296 ^ n := by
  have HW := Lib.hid hw
  have HB := Lib.hid hb
  obtain ⟨ab, capb, rfl, h1, h2, h3, h4, h5⟩ := hb
  clear h3 h4 h5 hw
  go_enter Tryz.func168, Tryz.ntmps168
  go_wp2
  go_loopw [4, 8] (fun c i wr => ∃ (k cr : Nat) (M : List Nat), k ≤ n ∧ i = .int .i64 k ∧ c = .int .u64 cr ∧ cr ≤ 1 ∧ Blk wr B e M ∧ Hid (Ws M) ∧ Hid (M.length = L.length) ∧ Only B w wr ∧
      Hid (∀ j, (j < off ∨ off + k ≤ j) → nth M j = nth L j) ∧ Hid (pv M off k + 4294967296 ^ k * cr = pv L off k + pv lb 0 k)) (fun _ i _ => n - (intOf i).toNat)
  case atStart => exact ⟨0, 0, L, Nat.zero_le _, rfl, rfl, by omega, hL, HW, Lib.hid rfl, Only.refl _ _, Lib.hid (fun _ _ => rfl), Lib.hid (by simp [pv_zero])⟩
  case round =>
    obtain ⟨k, cr, M, hk, rfl, rfl, hcr, hM, hMw, hMl, hon, hsame, hval⟩ := hrel
    by_cases hkn : k < n
    · have hx := ws_nth hMw.out (off + k)
      have hy := ws_nth HB.out.ws k
      have hcell := hM.cell (off + k) (by have := hMl.out; omega)
      have hfree := hM.free (off + k)
      have w1 : IntKind.u64.wrap (nth M (off + k) : Int) = (nth M (off + k) : Int) := IntWalk.u64_in _ (by omega)
      have w2 : IntKind.u64.wrap ((nth M (off + k) : Int) + (nth lb k : Int)) = (nth M (off + k) : Int) + (nth lb k : Int) := IntWalk.u64_in _ (by omega)
      have w3 : IntKind.u64.wrap ((cr : Int) + ((nth M (off + k) : Int) + (nth lb k : Int))) = (cr : Int) + ((nth M (off + k) : Int) + (nth lb k : Int)) := IntWalk.u64_in _ (by omega)
      by_cases hkl : lb.length ≤ k
      · by_cases hc0 : cr = 0
        · subst hc0
          clear w1 w2 w3
          go_wp2
          refine bodyPost_ret (results_none rfl _ _ _) rfl ?_
          refine ⟨rfl, M, hM, hMw.out, hMl.out, hon, fun j hj => hsame.out j (by omega), ?_⟩
          exact inc_stop hMw.out hk hkl (fun j hj => hsame.out j (Or.inr hj)) hval.out
        · have hc0' : ((cr : Int) == 0) = false := by simp; omega
          clear hc0
          go_wp2
          go_quiet ((go_at_call 152; exact quiet_left (at_w ((HB.out.only0 hon hne).drewN _) _)))
          clear w1 w2 w3
          go_wp2
          go_roundw
          case rel =>
            exact ⟨k + 1, (cr + (nth M (off + k) + nth lb k)) / 4294967296, M.set (off + k) ((cr + (nth M (off + k) + nth lb k)) % 4294967296), by omega, by go_num, by go_num, by omega,
              (hM.drewN nq).setCell (off + k) _ _ (by unfold U; go_num), Lib.hid (ws_set hMw.out _ (by omega)), Lib.hid (by rw [List.length_set]; exact hMl.out), (hon.drewN nq).setCell _ _,
              Lib.hid (fun j hj => by rw [nth_set_ne _ _ _ _ (by omega)]; exact hsame.out j (by omega)),
              Lib.hid (inc_step (by have := hMl.out; omega) rfl (hsame.out _ (by omega)) hval.out)⟩
          case measure => simp [intOf]; omega
      · go_wp2
        go_quiet ((go_at_call 152; exact quiet_left (at_w ((HB.out.only0 hon hne).drewN _) _)))
        clear w1 w2 w3
        go_wp2
        go_roundw
        case rel =>
          exact ⟨k + 1, (cr + (nth M (off + k) + nth lb k)) / 4294967296, M.set (off + k) ((cr + (nth M (off + k) + nth lb k)) % 4294967296), by omega, by go_num, by go_num, by omega,
            (hM.drewN nq).setCell (off + k) _ _ (by unfold U; go_num), Lib.hid (ws_set hMw.out _ (by omega)), Lib.hid (by rw [List.length_set]; exact hMl.out), (hon.drewN nq).setCell _ _,
            Lib.hid (fun j hj => by rw [nth_set_ne _ _ _ _ (by omega)]; exact hsame.out j (by omega)),
            Lib.hid (inc_step (by have := hMl.out; omega) rfl (hsame.out _ (by omega)) hval.out)⟩
        case measure => simp [intOf]; omega
    · obtain rfl : k = n := by omega
      go_wp2
      go_end0
      exact ⟨rfl, M, hM, hMw.out, hMl.out, hon, fun j hj => hsame.out j hj, inc_end hMw.out hval.out⟩
end Go.Proofs.YtafenoohjcpjgaaGreat

/- Sums, differences, shifts of words. -/
namespace Go.Proofs.YtafenoohjcpjgaaGreat
open Go.RowKit

end Go.Proofs.YtafenoohjcpjgaaGreat

/- Differences of words. -/
namespace Go.Proofs.YtafenoohjcpjgaaGreat
open Go.RowKit

/-- A difference of words as the program computes it, modulo 2^64; its low word; what is borrowed. -/
def subU (x y : Nat) : Nat := (x + 18446744073709551616 - y) % 18446744073709551616
theorem subU_wrap (x y : Nat) (hx : x < 18446744073709551616) (hy : y < 18446744073709551616) : IntKind.u64.wrap ((x : Int) - (y : Int)) = (subU x y : Int) := by
  rw [IntKind.wrap_u64]; unfold subU; omega
theorem subU_lt (x y : Nat) : subU x y < 18446744073709551616 := Nat.mod_lt _ (by omega)

theorem subU_word (x y br : Nat) (hx : x < 4294967296) (hy : y < 4294967296) (hb : br ≤ 1) :
    subU (subU x y) br % 4294967296 + y + br = x + 4294967296 * (subU (subU x y) br / 9223372036854775808) ∧ subU (subU x y) br / 9223372036854775808 ≤ 1 := by
  have h1 : subU x y = if y ≤ x then x - y else x + 18446744073709551616 - y := by unfold subU; split <;> omega
  have h2 : subU (subU x y) br = if y + br ≤ x then x - y - br else x + 18446744073709551616 - y - br := by
    rw [h1]; unfold subU; split <;> split <;> omega
  rw [h2]
  split <;> omega

end Go.Proofs.YtafenoohjcpjgaaGreat
