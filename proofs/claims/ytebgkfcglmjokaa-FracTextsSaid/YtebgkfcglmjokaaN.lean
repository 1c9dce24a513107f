/- Several texts in one: N1, N2, N3, N4, N5, U7, U8, N6. -/
import Derived.Test.YtebgkfcglmjokaaS1
import Derived.Test.YtebgkfcglmjokaaLa
import Derived.Test.YtebgkfcglmjokaaT2
import Derived.Deep.DrawnRows
import Derived.Deep.DeepCutAuto
import Derived.Deep.RegionWith
import Derived.Test.YtebgkfcglmjokaaU
import Derived.Laws.Concat
/- Texts of fractions: what is read of decimal digits. -/
namespace Go.Proofs.Ytebgkfcglmjokaa
open Go.RowKit

def lowD (x n : Nat) : List Nat := (bw x n).reverse
theorem lowD_succ (x n : Nat) : lowD x (n + 1) = (48 + x / 10 ^ n % 10) :: lowD x n := by
  unfold lowD; rw [bw_succ, List.reverse_append]; rfl
theorem lowD_len (x n : Nat) : (lowD x n).length = n := by unfold lowD; simp [bw_len]
theorem lowD_last (x n : Nat) : lowD x (n + 1) = lowD (x / 10) n ++ [48 + x % 10] := by
  induction n with
  | zero => simp [lowD, bw, List.range_succ]
  | succ n ih =>
    rw [lowD_succ, ih, lowD_succ]
    have h : x / 10 ^ (n + 1) = x / 10 / 10 ^ n := by rw [Nat.div_div_eq_div_mul, Nat.pow_succ, Nat.mul_comm]
    rw [h]; rfl

/-- Is a byte a decimal digit? -/
def digB (c : Nat) : Bool := decide (48 ≤ c) && decide (c ≤ 57)
/-- The value of decimal digits. -/
def decV (L : List Nat) : Nat := L.foldl (fun n c => n * 10 + (c - 48)) 0
theorem decV_nil : decV [] = 0 := rfl
theorem decV_snoc (L : List Nat) (c : Nat) : decV (L ++ [c]) = decV L * 10 + (c - 48) := by
  unfold decV; rw [List.foldl_append]; rfl
theorem foldl_dec (L : List Nat) : ∀ n, L.foldl (fun n c => n * 10 + (c - 48)) n = n * 10 ^ L.length + decV L := by
  induction L with
  | nil => intro n; simp [decV]
  | cons c L ih =>
    intro n
    have h : decV (c :: L) = (c - 48) * 10 ^ L.length + decV L := by
      show L.foldl _ (0 * 10 + (c - 48)) = _
      rw [ih]; simp
    rw [h]
    show L.foldl _ (n * 10 + (c - 48)) = _
    rw [ih, List.length_cons, Nat.pow_succ, Nat.add_mul, Nat.mul_assoc, Nat.mul_comm 10, Nat.add_assoc]
theorem decV_cons (c : Nat) (L : List Nat) : decV (c :: L) = (c - 48) * 10 ^ L.length + decV L := by
  show L.foldl _ (0 * 10 + (c - 48)) = _
  rw [foldl_dec]; simp
theorem decV_lt {L : List Nat} (h : L.all digB = true) : decV L < 10 ^ L.length := by
  induction L with
  | nil => simp [decV]
  | cons c L ih =>
    simp only [List.all_cons, Bool.and_eq_true] at h
    have h1 := ih h.2
    have h2 : c - 48 ≤ 9 := by have := h.1; simp [digB] at this; omega
    rw [decV_cons, List.length_cons, Nat.pow_succ]
    have h3 := Nat.mul_le_mul_right (10 ^ L.length) h2
    omega
theorem decV_lowD (x : Nat) : ∀ n, decV (lowD x n) = x % 10 ^ n
  | 0 => by simp [lowD, bw, decV, Nat.mod_one]
  | n + 1 => by
    rw [lowD_succ, decV_cons, decV_lowD x n, lowD_len, Nat.pow_succ, Nat.mod_mul]
    have : 48 + x / 10 ^ n % 10 - 48 = x / 10 ^ n % 10 := by omega
    rw [this, Nat.mul_comm]; omega
theorem lowD_decV {L : List Nat} (h : L.all digB = true) : lowD (decV L) L.length = L := by
  have key : ∀ (n : Nat) (L : List Nat), L.length = n → L.all digB = true → lowD (decV L) n = L := by
    intro n
    induction n with
    | zero => intro L hl _; rw [List.eq_nil_of_length_eq_zero hl]; rfl
    | succ n ih =>
      intro L hl h
      obtain ⟨M, c, rfl⟩ : ∃ M c, L = M ++ [c] := ⟨L.dropLast, L.getLast (by intro e; rw [e] at hl; simp at hl), (List.dropLast_concat_getLast _).symm⟩
      simp only [List.all_append, List.all_cons, List.all_nil, Bool.and_true, Bool.and_eq_true] at h
      have hc : 48 ≤ c ∧ c ≤ 57 := by have := h.2; simpa [digB] using this
      have hm : M.length = n := by simp at hl; exact hl
      rw [lowD_last, decV_snoc]
      have e1 : (decV M * 10 + (c - 48)) / 10 = decV M := by omega
      have e2 : 48 + (decV M * 10 + (c - 48)) % 10 = c := by omega
      rw [e1, e2, ih M hm h.1]
  exact key _ L rfl h
theorem decS_low {x : Nat} (h : x ≠ 0) : decS x = lowD x (ndig x) := by unfold decS lowD; rw [if_neg h]
theorem decV_decS (x : Nat) : decV (decS x) = x := by
  by_cases h : x = 0
  · rw [h]; rfl
  · rw [decS_low h, decV_lowD]
    exact Nat.mod_eq_of_lt (ndig_le.1 (Nat.le_refl _))
theorem lowD_dig (x n : Nat) : (lowD x n).all digB = true := by
  unfold lowD bw
  rw [List.all_reverse, List.all_map, List.all_eq_true]
  intro i _
  simp [digB]; omega
theorem decS_dig (x : Nat) : (decS x).all digB = true := by
  by_cases h : x = 0
  · rw [h]; rfl
  · rw [decS_low h]; exact lowD_dig _ _
theorem decS_head {x : Nat} : (decS x).length ≤ 1 ∨ (decS x).head? ≠ some 48 := by
  by_cases h : x = 0
  · rw [h]; left; exact Nat.le_refl 1
  · right
    have h1 := ndig_pos h
    rw [decS_low h, h1, lowD_succ]
    simp only [List.head?_cons, ne_eq, Option.some.injEq]
    intro e
    have h2 : x < 10 ^ (ndig (x / 10) + 1) := ndig_le.1 (by omega)
    have h3 := (bw_top h2).1 e
    have h4 := ndig_le.2 h3
    omega

/-- Digits, at most 40. -/
def numB (L : List Nat) : Bool := decide (L.length ≤ 40) && L.all digB
/-- A number as it is to be written. -/
def num1B (L : List Nat) : Bool := decide (0 < L.length) && (decide (L.length ≤ 1) || !decide (L.head? = some 48)) && numB L
theorem num1_dec {L : List Nat} (h : num1B L = true) : decS (decV L) = L := by
  simp only [num1B, numB, Bool.and_eq_true, Bool.or_eq_true, decide_eq_true_eq, Bool.not_eq_true', decide_eq_false_iff_not] at h
  obtain ⟨⟨h0, h1⟩, _, h2⟩ := h
  have h3 := lowD_decV h2
  match L, h0 with
  | c :: M, _ =>
    simp only [List.all_cons, Bool.and_eq_true] at h2
    have hc : 48 ≤ c ∧ c ≤ 57 := by have := h2.1; simpa [digB] using this
    by_cases hz : decV (c :: M) = 0
    · rw [decV_cons] at hz
      have hp : 0 < 10 ^ M.length := Nat.pow_pos (by omega)
      have hc0 : c - 48 = 0 := by
        rcases Nat.eq_zero_or_pos (c - 48) with e | e
        · exact e
        · have := Nat.mul_pos e hp; omega
      have hc1 : c = 48 := by omega
      rcases h1 with h1 | h1
      · have hm : M = [] := by simpa using h1
        subst hm; subst hc1
        rfl
      · exact absurd (by rw [hc1]; rfl) h1
    · have hn : ndig (decV (c :: M)) = (c :: M).length := by
        refine Nat.le_antisymm (ndig_le.2 (decV_lt (by simp only [List.all_cons, Bool.and_eq_true]; exact h2))) ?_
        rcases Nat.lt_or_ge (ndig (decV (c :: M))) (c :: M).length with h9 | h9
        · exfalso
          have h8 : ndig (decV (c :: M)) ≤ M.length := by simp only [List.length_cons] at h9; omega
          have h7 := ndig_le.1 h8
          rw [decV_cons] at h7 hz
          rcases h1 with h1 | h1
          · have hm : M = [] := by simpa using h1
            subst hm
            simp [decV_nil] at h7 hz
            omega
          · have hc2 : 1 ≤ c - 48 := by
              have : c ≠ 48 := fun e => h1 (by rw [e]; rfl)
              omega
            have := Nat.mul_le_mul_right (10 ^ M.length) hc2
            omega
        · exact h9
      rw [decS_low hz, hn, h3]
theorem dec_num1 {x : Nat} (h : (decS x).length ≤ 40) : num1B (decS x) = true := by
  simp only [num1B, numB, Bool.and_eq_true, Bool.or_eq_true, decide_eq_true_eq, Bool.not_eq_true', decide_eq_false_iff_not]
  exact ⟨⟨List.length_pos_iff.2 (dec_ne x), decS_head⟩, h, decS_dig x⟩

/-- Where the first slash stands, or the end. -/
def slashAt (T : List Nat) : Nat := (T.takeWhile (fun c => c != 47)).length
def botL (T : List Nat) : List Nat := if slashAt T < T.length then T.drop (slashAt T + 1) else [49]
theorem slash_of {A B : List Nat} (hA : A.all digB = true) : slashAt (A ++ 47 :: B) = A.length := by
  unfold slashAt
  have h : (A ++ 47 :: B).takeWhile (fun c => c != 47) = A := by
    rw [List.takeWhile_append_of_pos]
    · simp
    · intro c hc
      have := List.all_eq_true.1 hA c hc
      simp [digB] at this
      simp; omega
  rw [h]
theorem slash_none {A : List Nat} (hA : A.all digB = true) : slashAt A = A.length := by
  unfold slashAt
  have h : A.takeWhile (fun c => c != 47) = A := by
    have h9 := List.takeWhile_append_of_pos (p := fun c => c != 47) (l₁ := A) (l₂ := []) (fun c hc => by
      have := List.all_eq_true.1 hA c hc
      simp [digB] at this
      simp; omega)
    simpa using h9
  rw [h]
theorem slash_le (T : List Nat) : slashAt T ≤ T.length := by
  unfold slashAt
  exact (List.takeWhile_prefix _).length_le
theorem slash_take (T : List Nat) : T.take (slashAt T) = T.takeWhile (fun c => c != 47) := by
  unfold slashAt
  exact (List.prefix_iff_eq_take.1 (List.takeWhile_prefix _)).symm
theorem slash_before {T : List Nat} {i : Nat} (h : i < slashAt T) : nth T i ≠ 47 := by
  have h1 := slash_take T
  have h2 : nth (T.take (slashAt T)) i = nth T i := nth_take h
  rw [h1] at h2
  have h3 : nth (T.takeWhile (fun c => c != 47)) i ∈ T.takeWhile (fun c => c != 47) := by
    rw [nth_getElem (show i < (T.takeWhile (fun c => c != 47)).length from h)]
    exact List.getElem_mem _
  have h4 := List.all_eq_true.1 (List.all_takeWhile (l := T) (p := fun c => c != 47)) _ h3
  rw [h2] at h4
  simpa using h4
theorem slash_there {T : List Nat} (h : slashAt T < T.length) : nth T (slashAt T) = 47 := by
  induction T with
  | nil => simp at h
  | cons c T ih =>
    by_cases hc : c = 47
    · subst hc
      simp [slashAt, nth]
    · have e : slashAt (c :: T) = slashAt T + 1 := by
        unfold slashAt
        rw [List.takeWhile_cons_of_pos (by simpa using hc)]; rfl
      rw [e] at h ⊢
      have := ih (by simpa using h)
      simpa [nth] using this
theorem slash_eq {T : List Nat} {p : Nat} (hp : p ≤ T.length) (h1 : ∀ i, i < p → nth T i ≠ 47) (h2 : p < T.length → nth T p = 47) : slashAt T = p := by
  rcases Nat.lt_trichotomy (slashAt T) p with h | h | h
  · exact absurd (slash_there (by omega)) (h1 _ h)
  · exact h
  · exact absurd (h2 (by have := slash_le T; omega)) (slash_before h)
theorem slash_split {T : List Nat} (h : slashAt T < T.length) : T = T.take (slashAt T) ++ 47 :: T.drop (slashAt T + 1) := by
  have h1 := slash_there h
  rw [nth_getElem h] at h1
  rw [← h1, List.getElem_cons_drop]
  exact (List.take_append_drop _ _).symm

/-- What frac.Parse asks of a text: sign, then the rest. -/
def fracOK (b : Bool) (T : List Nat) : Bool := numB (T.take (slashAt T)) && numB (botL T) && decide (printL (fixR b (digs (decV (T.take (slashAt T)))) (digs (decV (botL T)))) = headL b ++ T)
/-- What the reference asks of a text. -/
def refOK (b : Bool) (T : List Nat) : Bool := num1B (T.take (slashAt T)) && !(b && decide (decV (T.take (slashAt T)) = 0)) && (!decide (slashAt T < T.length) || (num1B (T.drop (slashAt T + 1)) && !decide (decV (T.drop (slashAt T + 1)) = 0) && !decide (decV (T.drop (slashAt T + 1)) = 1))) &&
  rightB b (digs (decV (T.take (slashAt T)))) (digs (decV (botL T)))
theorem bot_one : decV [49] = 1 := rfl
theorem ref_frac {b : Bool} {T : List Nat} (h : refOK b T = true) : fracOK b T = true := by
  obtain ⟨n, hn⟩ : ∃ n, n = decV (T.take (slashAt T)) := ⟨_, rfl⟩
  obtain ⟨d, hd⟩ : ∃ d, d = decV (botL T) := ⟨_, rfl⟩
  unfold refOK at h
  unfold fracOK
  simp only [Bool.and_eq_true, Bool.or_eq_true, Bool.not_eq_true', decide_eq_false_iff_not, decide_eq_true_eq] at h ⊢
  rw [← hn, ← hd] at h ⊢
  obtain ⟨⟨⟨h1, h2⟩, h3⟩, h4⟩ := h
  obtain ⟨e1, e2, e3, -⟩ := right_rat (ws_digs n) (ws_digs d) h4
  obtain ⟨q, hq⟩ : ∃ q, q = fixR b (digs n) (digs d) := ⟨_, rfl⟩
  rw [← hq] at e1 e2 e3 ⊢
  have f1 : n = q.num.natAbs := by have := congrArg val e1; simpa [val_digs] using this
  have f2 : d = q.den := by have := congrArg val e2; simpa [val_digs] using this
  have t1 := num1_dec h1
  rw [← hn] at t1
  have g1 : numB (T.take (slashAt T)) = true := by unfold num1B at h1; simp only [Bool.and_eq_true] at h1; exact h1.2
  by_cases hs : slashAt T < T.length
  · rcases h3 with h3 | h3
    · exact absurd hs h3
    · obtain ⟨⟨h5, h6⟩, h7⟩ := h3
      have hb : botL T = T.drop (slashAt T + 1) := by unfold botL; rw [if_pos hs]
      rw [← hb] at h5 h6 h7
      have t2 := num1_dec h5
      rw [← hd] at t2 h7
      refine ⟨⟨g1, by unfold num1B at h5; simp only [Bool.and_eq_true] at h5; exact h5.2⟩, ?_⟩
      unfold printL tailL
      rw [if_neg (by rw [← f2]; exact h7), ← e3, ← f1, ← f2, t1, t2, hb, List.append_assoc, ← slash_split hs]
  · have hb : botL T = [49] := by unfold botL; rw [if_neg hs]
    rw [hb, bot_one] at hd
    refine ⟨⟨g1, by rw [hb]; rfl⟩, ?_⟩
    unfold printL tailL
    have hle := slash_le T
    rw [if_pos (by rw [← f2]; exact hd), ← e3, ← f1, t1, List.append_nil, List.take_of_length_le (by omega)]
theorem dec_cons (x : Nat) : ∃ c A, decS x = c :: A ∧ c ≠ 45 := by
  have h1 := decS_dig x
  match h : decS x, dec_ne x with
  | c :: A, _ =>
    rw [h] at h1
    simp only [List.all_cons, Bool.and_eq_true] at h1
    exact ⟨c, A, rfl, by have := h1.1; simp [digB] at this; omega⟩
theorem frac_ref {b : Bool} {T : List Nat} (hb : b = false → T.head? ≠ some 45) (h : fracOK b T = true) : refOK b T = true := by
  obtain ⟨n, hn⟩ : ∃ n, n = decV (T.take (slashAt T)) := ⟨_, rfl⟩
  obtain ⟨d, hd⟩ : ∃ d, d = decV (botL T) := ⟨_, rfl⟩
  unfold fracOK at h
  unfold refOK
  simp only [Bool.and_eq_true, Bool.or_eq_true, Bool.not_eq_true', decide_eq_false_iff_not, decide_eq_true_eq] at h ⊢
  rw [← hn, ← hd] at h ⊢
  obtain ⟨⟨h1, h2⟩, h3⟩ := h
  have hlq := fix_len (b := b) (ws_digs n) (ws_digs d)
  obtain ⟨q, hq⟩ : ∃ q, q = fixR b (digs n) (digs d) := ⟨_, rfl⟩
  rw [← hq] at h3 hlq
  have hr := right_digs hlq
  obtain ⟨c, A, hc, hc45⟩ := dec_cons q.num.natAbs
  have hT : b = decide (q.num < 0) ∧ T = decS q.num.natAbs ++ tailL q := by
    unfold printL at h3
    obtain ⟨bq, hbq⟩ : ∃ bq, bq = decide (q.num < 0) := ⟨_, rfl⟩
    rw [← hbq] at h3 ⊢
    cases b <;> cases bq
    · refine ⟨rfl, ?_⟩
      simpa [headL] using h3.symm
    · exfalso
      refine hb rfl ?_
      have h9 : T = [45] ++ decS q.num.natAbs ++ tailL q := by simpa [headL] using h3.symm
      rw [h9]; rfl
    · exfalso
      rw [hc] at h3
      simp [headL] at h3
      exact hc45 h3.1
    · refine ⟨rfl, ?_⟩
      simpa [headL] using h3.symm
  obtain ⟨hbq, hTT⟩ := hT
  have hN0 : b = true → q.num.natAbs ≠ 0 := fun e h0 => by
    rw [e] at hbq
    have := of_decide_eq_true hbq.symm
    omega
  unfold tailL at hTT
  by_cases hden : q.den = 1
  · rw [if_pos hden, List.append_nil] at hTT
    have hs : slashAt T = T.length := by rw [hTT]; exact slash_none (decS_dig _)
    have htk : T.take (slashAt T) = T := by rw [hs, List.take_length]
    have hbt : botL T = [49] := by unfold botL; rw [if_neg (by omega)]
    rw [htk] at hn h1 ⊢
    rw [hbt, bot_one] at hd
    have hnN : n = q.num.natAbs := by rw [hn, hTT, decV_decS]
    have hlen : T.length ≤ 40 := by simp only [numB, Bool.and_eq_true, decide_eq_true_eq] at h1; exact h1.1
    refine ⟨⟨⟨by rw [hTT]; exact dec_num1 (by rw [← hTT]; exact hlen), ?_⟩, Or.inl (by omega)⟩, ?_⟩
    · cases b
      · rfl
      · have := hN0 rfl
        simp; omega
    · rw [hnN, hd, ← hden, hbq]; exact hr
  · rw [if_neg hden] at hTT
    have hs : slashAt T = (decS q.num.natAbs).length := by rw [hTT]; exact slash_of (decS_dig _)
    have htk : T.take (slashAt T) = decS q.num.natAbs := by rw [hs, hTT, List.take_left']; rfl
    have hdr : T.drop (slashAt T + 1) = decS q.den := by
      rw [hs, hTT, List.drop_append]
      have e1 : (decS q.num.natAbs).length + 1 - (decS q.num.natAbs).length = 1 := by omega
      rw [e1, List.drop_of_length_le (by omega)]
      rfl
    have hlt : slashAt T < T.length := by rw [hs, hTT]; simp
    have hbt : botL T = decS q.den := by unfold botL; rw [if_pos hlt, hdr]
    rw [htk] at hn h1 ⊢
    rw [hbt] at hd h2
    rw [hdr]
    rw [decV_decS] at hn hd
    rw [decV_decS]
    simp only [numB, Bool.and_eq_true, decide_eq_true_eq] at h1 h2
    refine ⟨⟨⟨dec_num1 h1.1, ?_⟩, Or.inr ⟨⟨dec_num1 h2.1, q.den_nz⟩, hden⟩⟩, ?_⟩
    · cases b
      · rfl
      · have := hN0 rfl
        rw [hn]
        simp only [Bool.true_and, decide_eq_false_iff_not]
        exact this
    · rw [hn, hd, hbq]; exact hr
theorem parse_same {b : Bool} {T : List Nat} (hb : b = false → T.head? ≠ some 45) : fracOK b T = refOK b T := by
  cases h : refOK b T
  · cases h2 : fracOK b T
    · rfl
    · rw [frac_ref hb h2] at h; exact h
  · exact ref_frac h
end Go.Proofs.Ytebgkfcglmjokaa

/- Texts of fractions: the slash; digits read by the program and by the reference. -/
namespace Go.Proofs.Ytebgkfcglmjokaa
open Go.RowKit
attribute [local go_sem ↓] Go.wp_at_zero Go.wp_at_succ

/-- All bytes. -/
def Bytes (T : List Nat) : Prop := ∀ c ∈ T, c < 256
theorem strL_size (T : List Nat) : (strL T).size = T.length := by unfold strL; simp [ByteArray.size]
theorem Bytes.take {T : List Nat} (h : Bytes T) (k : Nat) : Bytes (T.take k) := fun c hc => h c (List.mem_of_mem_take hc)
theorem Bytes.drop {T : List Nat} (h : Bytes T) (k : Nat) : Bytes (T.drop k) := fun c hc => h c (List.mem_of_mem_drop hc)
theorem Bytes.nth {T : List Nat} (h : Bytes T) {i : Nat} (hi : i < T.length) : nth T i < 256 := by rw [nth_getElem hi]; exact h _ (List.getElem_mem _)
theorem run_index_strL {T : List Nat} (hT : Bytes T) {i : Nat} (hi : i < T.length) (w : World) :
    (Instr.index 9 (.string (strL T)) (.int .i64 (i : Int))).run Try.prog w = .ok (.int .u8 (nth T i : Nat)) w := by
  have hs := strL_size T
  rw [run_index_string w 9 (strL T) .i64 (i : Int) Try.underlying9, dif_pos ⟨by omega, by omega⟩]
  have h1 := hT.nth hi
  have h2 : ((strL T)[(i : Int).toNat]'(by omega)).toNat = nth T i := by
    have h3 : ∀ (j : Nat) (hj : j < (strL T).size), (strL T)[j]'hj = UInt8.ofNat (nth T j) := by
      intro j hj
      rw [nth_getElem (by omega), ByteArray.getElem_eq_getElem_data]
      simp [strL]
    rw [h3]
    exact Nat.mod_eq_of_lt h1
  rw [h2]
theorem strL_extract (T : List Nat) (a b : Nat) : (strL T).extract a b = strL ((T.drop a).take (b - a)) := by
  unfold strL
  rw [ByteArray.extract_mk]
  simp [List.map_take, List.map_drop]
theorem strL_from (T : List Nat) (a : Nat) : (strL T).extract a (strL T).size = strL (T.drop a) := by
  rw [strL_extract, strL_size, List.take_of_length_le (by simp)]
theorem strL_to (T : List Nat) (b : Nat) : (strL T).extract 0 b = strL (T.take b) := by
  rw [strL_extract, List.drop_zero, Nat.sub_zero]
theorem strL_inj {A B : List Nat} (hA : Bytes A) (hB : Bytes B) (h : strL A = strL B) : A = B := by
  have h1 : A.map UInt8.ofNat = B.map UInt8.ofNat := by
    have h2 := congrArg (fun s : ByteArray => s.data.toList) h
    simpa [strL] using h2
  have key : ∀ L : List Nat, Bytes L → (L.map UInt8.ofNat).map (fun c => c.toNat) = L := by
    intro L hL
    rw [List.map_map]
    conv => rhs; rw [← List.map_id L]
    refine List.map_congr_left fun c hc => ?_
    exact Nat.mod_eq_of_lt (hL c hc)
  rw [← key A hA, ← key B hB, h1]

set_option maxHeartbeats 400000 in
theorem slash_w {w : World} {T : List Nat} (hT : Bytes T) (hl : T.length ≤ 1000) :
    Calls Try.prog 85 #[.string (strL T)] w fun e w' => e = .returned (.int .i64 (if slashAt T < T.length then (slashAt T : Int) else -1)) ∧ w = w' := by
  have HT := Lib.hid hT
  have hs := strL_size T
  obtain ⟨n, hn⟩ : ∃ n, n = T.length := ⟨_, rfl⟩
  rw [← hn] at hs hl
  have HN := Lib.hid hn
  clear hT hn
  obtain ⟨R, hR⟩ : ∃ R, R = (if slashAt T < T.length then (slashAt T : Int) else -1) := ⟨_, rfl⟩
  rw [← hR]
  have HR := Lib.hid hR
  clear hR
  go_enter Try.func85, Try.ntmps85
  go_wp2_with fail
  go_loop [3] (fun iv => ∃ i : Nat, i ≤ n ∧ iv = .int .i64 i ∧ Hid (∀ j, j < i → nth T j ≠ 47)) (fun iv => n - (intOf iv).toNat)
  case atStart => exact ⟨0, Nat.zero_le _, rfl, Lib.hid (fun j h => absurd h (Nat.not_lt_zero j))⟩
  case round =>
    obtain ⟨i, hi, rfl, hd⟩ := hrel
    by_cases hin : i < n
    · have t0 : decide ((i : Int) < (n : Int)) = true := by simp; omega
      have hix := run_index_strL HT.out (i := i) (by rw [← HN.out]; exact hin)
      obtain ⟨c, hc⟩ : ∃ c, c = nth T i := ⟨_, rfl⟩
      rw [← hc] at hix
      by_cases h47 : c = 47
      · have t1 : ((c : Int) == 47) = true := by simp; omega
        have HE : Hid (R = (i : Int)) := Lib.hid (by
          have hp : slashAt T = i := slash_eq (by rw [← HN.out]; exact hi) hd.out (fun _ => by rw [← hc]; exact h47)
          rw [HR.out, hp, if_pos (by rw [← HN.out]; exact hin)])
        clear h47 hc
        go_wp2_with fail
        go_ret
        exact ⟨by rw [HE.out]; rfl, rfl⟩
      · have t1 : ((c : Int) == 47) = false := by simp; omega
        have HD : Hid (∀ j, j < i + 1 → nth T j ≠ 47) := Lib.hid (fun j hj => by
          by_cases e : j = i
          · subst e; rw [← hc]; exact h47
          · exact hd.out j (by omega))
        clear h47 hc
        go_wp2_with fail
        go_round
        case rel => exact ⟨i + 1, by omega, by go_num, HD⟩
        case measure => simp [intOf]; omega
    · have t0 : decide ((i : Int) < (n : Int)) = false := by simp; omega
      have HE : Hid (R = -1) := Lib.hid (by
        have hp : slashAt T = n := slash_eq (by rw [← HN.out]; exact Nat.le_refl _) (fun j hj => hd.out j (by omega)) (fun h => by rw [← HN.out] at h; omega)
        rw [HR.out, hp, if_neg (by rw [← HN.out]; omega)])
      go_wp2_with fail
      go_ret
      exact ⟨by rw [HE.out]; rfl, rfl⟩

theorem dec_step {T : List Nat} {i : Nat} (hi : i < T.length) : decV (T.take (i + 1)) = decV (T.take i) * 10 + (nth T i - 48) := by
  rw [List.take_succ_eq_append_getElem hi, decV_snoc, nth_getElem hi]
theorem dec_len40 {L : List Nat} (h : L.all digB = true) (hl : L.length ≤ 40) : (digs (decV L)).length ≤ 40 := by
  refine len_digs_le.2 (Nat.lt_of_lt_of_le (decV_lt h) ?_)
  refine Nat.le_trans (Nat.pow_le_pow_right (by omega) hl) ?_
  exact Nat.pow_le_pow_left (by omega) 40
theorem all_step {T : List Nat} {i : Nat} (hi : i < T.length) (h : (T.take i).all digB = true) (hc : 48 ≤ nth T i ∧ nth T i ≤ 57) : (T.take (i + 1)).all digB = true := by
  rw [List.take_succ_eq_append_getElem hi, List.all_append, h, ← nth_getElem hi]
  simp [digB, hc.1, hc.2]
theorem all_not {T : List Nat} {i : Nat} (hi : i < T.length) (hc : ¬ (48 ≤ nth T i ∧ nth T i ≤ 57)) : T.all digB = false := by
  cases h : T.all digB
  · rfl
  · exfalso
    have := List.all_eq_true.1 h (nth T i) (by rw [nth_getElem hi]; exact List.getElem_mem _)
    simp [digB] at this
    exact hc this

/-- What digits tell. -/
def DigPost (w : World) (ok : Bool) (x : Nat) (e : Ending) (w' : World) : Prop :=
  (∃ a n c, e = .returned (.tuple #[.slice a n c, .bool ok]) ∧ Hid (ok = true → IsW w' (.slice a n c) (digs x)) ∧ Hid (∃ y, IsW w' (.slice a n c) (digs y) ∧ (digs y).length ≤ 40)) ∧ Below w.heap.size w w'

set_option maxRecDepth 8000 in
set_option maxHeartbeats 4000000 in
theorem fromDigits_w {w : World} {T : List Nat} (hT : Bytes T) (hl : T.length ≤ 1000) :
    Calls Try.prog 86 #[.string (strL T)] w (DigPost w (numB T) (decV T)) := by
  have HT := Lib.hid hT
  have hs := strL_size T
  obtain ⟨n, hn⟩ : ∃ n, n = T.length := ⟨_, rfl⟩
  rw [← hn] at hs hl
  have HN := Lib.hid hn
  obtain ⟨R, hR⟩ : ∃ R, R = numB T := ⟨_, rfl⟩
  rw [← hR]
  have HR := Lib.hid hR
  have HNIL : Hid (∀ w', ∃ y, IsW w' (.slice none 0 0) (digs y) ∧ (digs y).length ≤ 40) := Lib.hid (fun w' => ⟨0, by rw [digs_zero]; exact IsW.nil _, by rw [digs_zero]; simp⟩)
  clear hT hR hn
  by_cases h40 : 40 < n
  · have t0 : decide ((40 : Int) < (n : Int)) = true := by simp; omega
    have HF : Hid (R = false) := Lib.hid (by rw [HR.out]; unfold numB; rw [decide_eq_false (by rw [← HN.out]; omega)]; rfl)
    clear h40
    go_enter Try.func86, Try.ntmps86
    go_wp2_with fail
    go_ret2
    exact ⟨⟨_, _, _, by rw [HF.out]; rfl, Lib.hid (fun h => by rw [HF.out] at h; cases h), Lib.hid (HNIL.out _)⟩, Below.refl _ _⟩
  · have t0 : decide ((40 : Int) < (n : Int)) = false := by simp; omega
    have hn40 : n ≤ 40 := by omega
    clear h40 hl
    go_enter Try.func86, Try.ntmps86
    go_wp2_with fail
    go_loopw [4, 5] (fun ov iv wr => ∃ i : Nat, i ≤ n ∧ iv = .int .i64 i ∧ Hid (IsW wr ov (digs (decV (T.take i)))) ∧ Hid ((T.take i).all digB = true) ∧ Hid (Below w.heap.size w wr)) (fun _ iv _ => n - (intOf iv).toNat)
    case atStart => exact ⟨0, Nat.zero_le _, rfl, Lib.hid (by rw [List.take_zero, decV_nil, digs_zero]; exact IsW.nil _), Lib.hid rfl, Lib.hid (Below.refl _ _)⟩
    case round =>
      obtain ⟨i, hi, rfl, hI, hA, hB⟩ := hrel
      obtain ⟨wo, rfl⟩ : ∃ wo : World, wo = wr := ⟨_, rfl⟩
      obtain ⟨oa, on, oc, rfl, -⟩ := hI.out.form_len
      have HY : Hid ((digs (decV (T.take i))).length ≤ 40) := Lib.hid (dec_len40 hA.out (by rw [List.length_take]; omega))
      by_cases hin : i < n
      · have t1 : decide ((i : Int) < (n : Int)) = true := by simp; omega
        have hix := run_index_strL HT.out (i := i) (by rw [← HN.out]; exact hin)
        have hc256 := HT.out.nth (i := i) (by rw [← HN.out]; exact hin)
        have HDS := Lib.hid (dec_step (T := T) (i := i) (by rw [← HN.out]; exact hin))
        have HAS := Lib.hid (fun h => all_step (T := T) (i := i) (by rw [← HN.out]; exact hin) hA.out h)
        have HAN := Lib.hid (fun h => all_not (T := T) (i := i) (by rw [← HN.out]; exact hin) h)
        obtain ⟨c, hc⟩ : ∃ c, c = nth T i := ⟨_, rfl⟩
        rw [← hc] at hix hc256 HDS HAS HAN
        by_cases h48 : c < 48
        · have t2 : decide ((c : Int) < 48) = true := by simp; omega
          have HF : Hid (R = false) := Lib.hid (by rw [HR.out]; unfold numB; rw [HAN.out (by omega)]; simp)
          clear h48 hc
          go_wp2_with fail
          go_ret2
          exact ⟨⟨_, _, _, by rw [HF.out]; rfl, Lib.hid (fun h => by rw [HF.out] at h; cases h), Lib.hid (HNIL.out _)⟩, hB.out⟩
        · have t2 : decide ((c : Int) < 48) = false := by simp; omega
          by_cases h57 : 57 < c
          · have t3 : decide ((57 : Int) < (c : Int)) = true := by simp; omega
            have HF : Hid (R = false) := Lib.hid (by rw [HR.out]; unfold numB; rw [HAN.out (by omega)]; simp)
            clear h48 h57 hc
            go_wp2_with fail
            go_ret2
            exact ⟨⟨_, _, _, by rw [HF.out]; rfl, Lib.hid (fun h => by rw [HF.out] at h; cases h), Lib.hid (HNIL.out _)⟩, hB.out⟩
          · have t3 : decide ((57 : Int) < (c : Int)) = false := by simp; omega
            obtain ⟨k, hk⟩ : ∃ k, k = c - 48 := ⟨_, rfl⟩
            have e1 : IntKind.u8.wrap ((c : Int) - 48) = (k : Int) := by rw [IntKind.wrap_u8]; omega
            have e2 : (c : Int) - 48 = (k : Int) := by omega
            have e3 : IntKind.u64.wrap (k : Int) = (k : Int) := by rw [IntKind.wrap_u64]; omega
            have e4 : IntKind.u8.wrap (k : Int) = (k : Int) := by rw [IntKind.wrap_u8]; omega
            have hk9 : k ≤ 9 := by omega
            have HA2 := Lib.hid (HAS.out ⟨by omega, by omega⟩)
            rw [← hk] at HDS
            have K1 := Lib.hid (fun w' => fromUint_q 10 (by omega) w')
            have K2 := Lib.hid (fun w' u (hb : Below wo.heap.size wo w') (hu : IsW w' u (digs 10)) => mul_w (w := w') (hI.out.below hb) hu (by have := HY.out; have h9 : (digs 10).length ≤ 1 := len_digs_le.2 (by omega); omega))
            have K3 := Lib.hid (fun w' => fromUint_q k (by omega) w')
            have HY2 : Hid ((digs (decV (T.take i) * 10)).length ≤ 42) := Lib.hid (by have h9 : (digs 10).length ≤ 1 := len_digs_le.2 (by omega); have h8 := len_digs_mul (decV (T.take i)) 10; have := HY.out; omega)
            have K4 := Lib.hid (fun w' u v (hu : IsW w' u (digs (decV (T.take i) * 10))) (hv : IsW w' v (digs k)) => add_w (w := w') hu hv (by have := HY2.out; omega) (by have h9 : (digs k).length ≤ 1 := len_digs_le.2 (by omega); omega))
            rw [← HDS.out] at K4
            have hz0 : Below wo.heap.size wo wo.drew := below_drewN (Below.refl _ _) 1
            clear h48 h57 hk hc
            go_wp2_with fail
            go_region_held3 (fun _ => True)
              (trivial)
              (first | (go_at_call_of 107 (Value.int .u64 10); refine (K1.out _).mono ?_; rintro en4 w4 ⟨⟨r4, rfl, hr4, ho4⟩, hb4⟩; obtain ⟨a4, n4, c4, he4⟩ := hr4.form; subst he4; have hz4 := below_trans hz0 hb4) | (go_at_call 117; refine (K2.out _ _ hz4 hr4).mono ?_; rintro en5 w5 ⟨⟨r5, rfl, hr5, ho5⟩, hb5⟩; obtain ⟨a5, n5, c5, he5⟩ := hr5.form; subst he5; have hz5 := below_trans hz4 hb5) | (go_at_call 107; refine (K3.out _).mono ?_; rintro en6 w6 ⟨⟨r6, rfl, hr6, ho6⟩, hb6⟩; obtain ⟨a6, n6, c6, he6⟩ := hr6.form; subst he6; have hz6 := below_trans hz5 hb6) | (go_at_call 122; refine (K4.out _ _ _ (hr5.below hb6) hr6).mono ?_; rintro en7 w7 ⟨⟨r7, rfl, hr7, ho7⟩, hb7⟩; obtain ⟨a7, n7, c7, he7⟩ := hr7.form; subst he7; have hz7 := below_trans hz6 hb7))
            all_goals
              have HW7 := Lib.hid (below_trans hB.out hz7)
              have HR7 := Lib.hid hr7
              go_wp2_with fail
              go_roundw
            all_goals first
              | exact ⟨i + 1, by omega, by go_num, HR7, HA2, HW7⟩
              | (simp [intOf]; omega)
      · have t1 : decide ((i : Int) < (n : Int)) = false := by simp; omega
        have HTK : Hid (T.take i = T) := Lib.hid (List.take_of_length_le (by rw [← HN.out]; omega))
        have HF : Hid (R = true) := Lib.hid (by rw [HR.out]; unfold numB; have h9 := hA.out; rw [HTK.out] at h9; rw [h9, decide_eq_true (by rw [← HN.out]; exact hn40)]; rfl)
        have HI2 : Hid (IsW wo (.slice oa on oc) (digs (decV T)) ∧ (digs (decV T)).length ≤ 40) := Lib.hid (by have h9 := hI.out; have h8 := HY.out; rw [HTK.out] at h9 h8; exact ⟨h9, h8⟩)
        go_wp2_with fail
        go_ret2
        exact ⟨⟨_, _, _, by rw [HF.out]; rfl, Lib.hid (fun _ => HI2.out.1), Lib.hid ⟨_, HI2.out⟩⟩, hB.out⟩
end Go.Proofs.Ytebgkfcglmjokaa

/- Texts of fractions: a number read by the reference. -/
namespace Go.Proofs.Ytebgkfcglmjokaa
open Go.RowKit
attribute [local go_sem ↓] Go.wp_at_zero Go.wp_at_succ

theorem lit_l {W : World} {g x : Nat} (hg : g = W.heap.size) (hx : x < 4294967296) : IsW (W.alloc (Obj.cells #[Value.int .u32 (x : Int)] 40)) (.slice (some ⟨g, 0, none⟩) 1 1) [x] := by
  subst hg
  have hB : Blk (W.alloc (Obj.cells #[Value.int .u32 (x : Int)] 40)) W.heap.size 40 [x] := by
    show (W.heap.push _)[W.heap.size]? = _
    simp [U]
  exact hB.isW_all (by intro z hz; simp at hz; omega) 1 (by simp) (by simp)
theorem lit_ten {W : World} {g : Nat} (hg : g = W.heap.size) : IsW (W.alloc (Obj.cells #[Value.int .u32 10] 40)) (.slice (some ⟨g, 0, none⟩) 1 1) (digs 10) := by
  have h : digs 10 = [10] := by unfold digs; simp [digs]
  rw [h]
  have h9 := lit_l (W := W) (x := 10) hg (by omega)
  exact h9

set_option maxRecDepth 8000 in
set_option maxHeartbeats 4000000 in
theorem number_w {w : World} {T : List Nat} (hT : Bytes T) (hl : T.length ≤ 1000) :
    Calls Try.prog 88 #[.string (strL T)] w (DigPost w (num1B T) (decV T)) := by
  have HT := Lib.hid hT
  have hs := strL_size T
  obtain ⟨n, hn⟩ : ∃ n, n = T.length := ⟨_, rfl⟩
  rw [← hn] at hs hl
  have HN := Lib.hid hn
  obtain ⟨R, hR⟩ : ∃ R, R = num1B T := ⟨_, rfl⟩
  rw [← hR]
  have HR := Lib.hid hR
  have HNIL : Hid (∀ w', ∃ y, IsW w' (.slice none 0 0) (digs y) ∧ (digs y).length ≤ 40) := Lib.hid (fun w' => ⟨0, by rw [digs_zero]; exact IsW.nil _, by rw [digs_zero]; simp⟩)
  have HHD : Hid (0 < n → (T.head? = some 48 ↔ nth T 0 = 48)) := Lib.hid (fun h => by
    match T, hn with
    | [], hn => rw [hn] at h; simp at h
    | c :: M, _ => simp [nth])
  clear hT hR hn
  by_cases h0 : n = 0
  · have t0 : ((n : Int) == 0) = true := by simp; omega
    have HF : Hid (R = false) := Lib.hid (by rw [HR.out]; unfold num1B; rw [decide_eq_false (by rw [← HN.out]; omega)]; simp)
    clear h0
    go_enter Try.func88, Try.ntmps88
    go_wp2_with fail
    go_ret2
    exact ⟨⟨_, _, _, by rw [HF.out]; rfl, Lib.hid (fun h => by rw [HF.out] at h; cases h), Lib.hid (HNIL.out _)⟩, Below.refl _ _⟩
  · have t0 : ((n : Int) == 0) = false := by simp; omega
    have hn0 : 0 < n := by omega
    by_cases h40 : 40 < n
    · have t1 : decide ((40 : Int) < (n : Int)) = true := by simp; omega
      have HF : Hid (R = false) := Lib.hid (by rw [HR.out]; unfold num1B numB; rw [decide_eq_false (p := T.length ≤ 40) (by rw [← HN.out]; omega)]; simp)
      clear h40 h0
      go_enter Try.func88, Try.ntmps88
      go_wp2_with fail
      go_ret2
      exact ⟨⟨_, _, _, by rw [HF.out]; rfl, Lib.hid (fun h => by rw [HF.out] at h; cases h), Lib.hid (HNIL.out _)⟩, Below.refl _ _⟩
    · have t1 : decide ((40 : Int) < (n : Int)) = false := by simp; omega
      have hn40 : n ≤ 40 := by omega
      have hix0 : ∀ w', (Instr.index 9 (.string (strL T)) (.int .i64 0)).run Try.prog w' = .ok (.int .u8 (nth T 0 : Nat)) w' := run_index_strL HT.out (i := 0) (by rw [← HN.out]; exact hn0)
      obtain ⟨c0, hc0⟩ : ∃ c, c = nth T 0 := ⟨_, rfl⟩
      rw [← hc0] at hix0
      have HC0 := Lib.hid hc0
      clear h40 h0 hl hc0
      obtain ⟨bd, hbd⟩ : ∃ b, b = (decide (1 < n) && decide (c0 = 48)) := ⟨_, rfl⟩
      have HBD := Lib.hid hbd
      clear hbd
      go_enter Try.func88, Try.ntmps88
      go_upto_region 1 with fail
      go_cut [23] (fun cv wr => cv = .bool bd ∧ w = wr)
      case first =>
        by_cases h1 : 1 < n
        · have t2 : decide ((1 : Int) < (n : Int)) = true := by simp; omega
          by_cases h48 : c0 = 48
          · have t3 : ((c0 : Int) == 48) = true := by simp; omega
            have HF : Hid (bd = true) := Lib.hid (by rw [HBD.out, decide_eq_true h1, decide_eq_true h48]; rfl)
            clear h1 h48
            go_wp2_with fail
            go_meet
            exact ⟨by rw [HF.out], rfl⟩
          · have t3 : ((c0 : Int) == 48) = false := by simp; omega
            have HF : Hid (bd = false) := Lib.hid (by rw [HBD.out, decide_eq_false h48, Bool.and_false])
            clear h1 h48
            go_wp2_with fail
            go_meet
            exact ⟨by rw [HF.out], rfl⟩
        · have t2 : decide ((1 : Int) < (n : Int)) = false := by simp; omega
          have HF : Hid (bd = false) := Lib.hid (by rw [HBD.out, decide_eq_false h1]; rfl)
          clear h1
          go_wp2_with fail
          go_meet
          exact ⟨by rw [HF.out], rfl⟩
      case rest =>
        obtain ⟨rfl, rfl⟩ := hcut
        clear hix0
        cases bd with
        | true =>
          have HF : Hid (R = false) := Lib.hid (by
            have h9 := HBD.out
            simp only [Bool.true_eq, Bool.and_eq_true, decide_eq_true_eq] at h9
            rw [HR.out]; unfold num1B
            rw [decide_eq_false (p := T.length ≤ 1) (by rw [← HN.out]; omega), decide_eq_true (p := T.head? = some 48) ((HHD.out hn0).2 (by rw [← HC0.out]; exact h9.2))]
            simp)
          go_wp2_with fail
          go_ret2
          exact ⟨⟨_, _, _, by rw [HF.out]; rfl, Lib.hid (fun h => by rw [HF.out] at h; cases h), Lib.hid (HNIL.out _)⟩, Below.refl _ _⟩
        | false =>
          have HRN : Hid (R = numB T) := Lib.hid (by
            have h9 := HBD.out
            rw [HR.out]; unfold num1B
            rw [decide_eq_true (p := 0 < T.length) (by rw [← HN.out]; exact hn0)]
            by_cases h1 : 1 < n
            · have h48 : c0 ≠ 48 := by
                intro e
                rw [decide_eq_true h1, decide_eq_true e] at h9; cases h9
              rw [decide_eq_false (p := T.head? = some 48) (fun e => h48 (by rw [HC0.out]; exact (HHD.out hn0).1 e))]
              simp
            · rw [decide_eq_true (p := T.length ≤ 1) (by rw [← HN.out]; omega)]
              simp)
          clear hn0
          go_wp2_with fail
          go_loopw [4, 5] (fun ov iv wr => ∃ i : Nat, i ≤ n ∧ iv = .int .i64 i ∧ Hid (IsW wr ov (digs (decV (T.take i)))) ∧ Hid ((T.take i).all digB = true) ∧ Hid (Below w.heap.size w wr)) (fun _ iv _ => n - (intOf iv).toNat)
          case atStart => exact ⟨0, Nat.zero_le _, rfl, Lib.hid (by rw [List.take_zero, decV_nil, digs_zero]; exact IsW.nil _), Lib.hid rfl, Lib.hid (Below.refl _ _)⟩
          case round =>
            obtain ⟨i, hi, rfl, hI, hA, hB⟩ := hrel
            obtain ⟨wo, rfl⟩ : ∃ wo : World, wo = wr := ⟨_, rfl⟩
            obtain ⟨oa, on, oc, rfl, -⟩ := hI.out.form_len
            have HY : Hid ((digs (decV (T.take i))).length ≤ 40) := Lib.hid (dec_len40 hA.out (by rw [List.length_take]; omega))
            by_cases hin : i < n
            · have t1 : decide ((i : Int) < (n : Int)) = true := by simp; omega
              have hix := run_index_strL HT.out (i := i) (by rw [← HN.out]; exact hin)
              have hc256 := HT.out.nth (i := i) (by rw [← HN.out]; exact hin)
              have HDS := Lib.hid (dec_step (T := T) (i := i) (by rw [← HN.out]; exact hin))
              have HAS := Lib.hid (fun h => all_step (T := T) (i := i) (by rw [← HN.out]; exact hin) hA.out h)
              have HAN := Lib.hid (fun h => all_not (T := T) (i := i) (by rw [← HN.out]; exact hin) h)
              obtain ⟨c, hc⟩ : ∃ c, c = nth T i := ⟨_, rfl⟩
              rw [← hc] at hix hc256 HDS HAS HAN
              by_cases h48 : c < 48
              · have t2 : decide ((c : Int) < 48) = true := by simp; omega
                have HF : Hid (R = false) := Lib.hid (by rw [HRN.out]; unfold numB; rw [HAN.out (by omega)]; simp)
                clear h48 hc
                go_wp2_with fail
                go_ret2
                exact ⟨⟨_, _, _, by rw [HF.out]; rfl, Lib.hid (fun h => by rw [HF.out] at h; cases h), Lib.hid (HNIL.out _)⟩, hB.out⟩
              · have t2 : decide ((c : Int) < 48) = false := by simp; omega
                by_cases h57 : 57 < c
                · have t3 : decide ((57 : Int) < (c : Int)) = true := by simp; omega
                  have HF : Hid (R = false) := Lib.hid (by rw [HRN.out]; unfold numB; rw [HAN.out (by omega)]; simp)
                  clear h48 h57 hc
                  go_wp2_with fail
                  go_ret2
                  exact ⟨⟨_, _, _, by rw [HF.out]; rfl, Lib.hid (fun h => by rw [HF.out] at h; cases h), Lib.hid (HNIL.out _)⟩, hB.out⟩
                · have t3 : decide ((57 : Int) < (c : Int)) = false := by simp; omega
                  obtain ⟨k, hk⟩ : ∃ k, k = c - 48 := ⟨_, rfl⟩
                  have e1 : IntKind.u8.wrap ((c : Int) - 48) = (k : Int) := by rw [IntKind.wrap_u8]; omega
                  have e2 : (c : Int) - 48 = (k : Int) := by omega
                  have e3 : IntKind.u32.wrap (k : Int) = (k : Int) := by rw [IntKind.wrap_u32]; omega
                  have e4 : IntKind.u8.wrap (k : Int) = (k : Int) := by rw [IntKind.wrap_u8]; omega
                  have hk9 : k ≤ 9 := by omega
                  have HA2 := Lib.hid (HAS.out ⟨by omega, by omega⟩)
                  rw [← hk] at HDS
                  have K2 := Lib.hid (fun w' u (hb : Below wo.heap.size wo w') (hu : IsW w' u (digs 10)) => rtimes_w (w := w') (hI.out.below hb) hu (by have := HY.out; have h9 : (digs 10).length ≤ 1 := len_digs_le.2 (by omega); omega))
                  have K3 := Lib.hid (fun w' u (hu : IsW w' u [k]) => rtrim_d (w := w') (x := k) hu (by simp [val]))
                  have HY2 : Hid ((digs (decV (T.take i) * 10)).length ≤ 42) := Lib.hid (by have h9 : (digs 10).length ≤ 1 := len_digs_le.2 (by omega); have h8 := len_digs_mul (decV (T.take i)) 10; have := HY.out; omega)
                  have K4 := Lib.hid (fun w' u v (hu : IsW w' u (digs (decV (T.take i) * 10))) (hv : IsW w' v (digs k)) => rplus_w (w := w') hu hv (by have := HY2.out; omega) (by have h9 : (digs k).length ≤ 1 := len_digs_le.2 (by omega); omega))
                  rw [← HDS.out] at K4
                  have hz0 : Below wo.heap.size wo wo.drew := below_drewN (Below.refl _ _) 1
                  clear h48 h57 hk hc
                  go_wp2_with fail
                  go_region_held3 (fun _ => True)
                    (trivial)
                    (first | (go_at_call 83; refine (K2.out _ _ (by first | exact below_drewN ((Below.refl _ _).alloc (Nat.le_refl _) _) 1 | exact below_drewN (((Below.refl _ _).alloc (Nat.le_refl _) _).alloc (by simp) _) 1) (by first | exact (lit_ten rfl).drew | exact ((lit_ten rfl).below ((Below.refl _ _).alloc (Nat.le_refl _) _)).drew | exact (lit_ten (by simp)).drew)).mono ?_; rintro en5 w5 ⟨⟨r5, rfl, hr5, ho5⟩, hb5⟩; obtain ⟨a5, n5, c5, he5⟩ := hr5.form; subst he5; have hz5 : Below wo.heap.size wo w5 := (by first | exact below_trans (below_drewN ((Below.refl _ _).alloc (Nat.le_refl _) _) 1) hb5 | exact below_trans (below_drewN (((Below.refl _ _).alloc (Nat.le_refl _) _).alloc (by simp) _) 1) hb5); (try have hk5 : IsW w5 (.slice (some ⟨wo.heap.size, 0, none⟩) 1 1) [k] := (((lit_l (W := wo) (x := k) rfl (by omega)).below ((Below.refl _ _).alloc (Nat.le_refl _) _)).drew).below hb5); (try have hk5 : IsW w5 (.slice (some ⟨wo.heap.size + 1, 0, none⟩) 1 1) [k] := ((lit_l (W := wo.alloc (Obj.cells #[Value.int .u32 10] 40)) (x := k) (by simp) (by omega)).drew).below hb5)) | (go_at_call 125; refine (K3.out _ _ (by first | exact hk5 | exact lit_l rfl (by omega))).mono ?_; rintro en6 w6 ⟨⟨r6, rfl, hr6, ho6⟩, hw6⟩; obtain ⟨a6, n6, c6, he6⟩ := hr6.form; subst he6; subst hw6) | (go_at_call 79; refine (K4.out _ _ _ (by first | exact hr5 | exact hr5.below ((Below.refl _ _).alloc (Nat.le_refl _) _)) hr6).mono ?_; rintro en7 w7 ⟨⟨r7, rfl, hr7, ho7⟩, hb7⟩; obtain ⟨a7, n7, c7, he7⟩ := hr7.form; subst he7; have hz7 : Below wo.heap.size wo w7 := (by first | exact below_trans hz5 hb7 | exact below_trans (hz5.alloc hz5.size _) hb7)))
                  all_goals
                    have HW8 := Lib.hid (below_trans hB.out hz7)
                    have HR8 := Lib.hid hr7
                    go_wp2_with fail
                    go_roundw
                  all_goals first
                    | exact ⟨i + 1, by omega, by go_num, HR8, HA2, HW8⟩
                    | (simp [intOf]; omega)
            · have t1 : decide ((i : Int) < (n : Int)) = false := by simp; omega
              have HTK : Hid (T.take i = T) := Lib.hid (List.take_of_length_le (by rw [← HN.out]; omega))
              have HF : Hid (R = true) := Lib.hid (by rw [HRN.out]; unfold numB; have h9 := hA.out; rw [HTK.out] at h9; rw [h9, decide_eq_true (by rw [← HN.out]; exact hn40)]; rfl)
              have HI2 : Hid (IsW wo (.slice oa on oc) (digs (decV T)) ∧ (digs (decV T)).length ≤ 40) := Lib.hid (by have h9 := hI.out; have h8 := HY.out; rw [HTK.out] at h9 h8; exact ⟨h9, h8⟩)
              go_wp2_with fail
              go_ret2
              exact ⟨⟨_, _, _, by rw [HF.out]; rfl, Lib.hid (fun _ => HI2.out.1), Lib.hid ⟨_, HI2.out⟩⟩, hB.out⟩
end Go.Proofs.Ytebgkfcglmjokaa

/- Texts of fractions: the program's Parse. -/
namespace Go.Proofs.Ytebgkfcglmjokaa
open Go.RowKit
attribute [local go_sem ↓] Go.wp_at_zero Go.wp_at_succ

/-- The sign of a text, and the rest. -/
def sgnB (L : List Nat) : Bool := decide (L.head? = some 45)
def restL (L : List Nat) : List Nat := if sgnB L then L.drop 1 else L
theorem sgn_split (L : List Nat) : headL (sgnB L) ++ restL L = L := by
  unfold restL
  cases h : sgnB L
  · rfl
  · match L, h with
    | c :: M, h =>
      have : c = 45 := by simpa [sgnB] using h
      subst this; rfl
theorem rest_head (L : List Nat) : sgnB L = false → (restL L).head? ≠ some 45 := by
  intro h
  unfold restL
  rw [h]
  simpa [sgnB] using h
def topL (L : List Nat) : List Nat := (restL L).take (slashAt (restL L))
def parseOK (L : List Nat) : Bool := fracOK (sgnB L) (restL L)
def parseQ (L : List Nat) : Rat := fixR (sgnB L) (digs (decV (topL L))) (digs (decV (botL (restL L))))
theorem Bytes.rest {L : List Nat} (h : Bytes L) : Bytes (restL L) := by
  unfold restL; split
  · exact h.drop 1
  · exact h
theorem rest_len (L : List Nat) : (restL L).length ≤ L.length := by
  unfold restL; split <;> simp
theorem Bytes.bot {T : List Nat} (h : Bytes T) : Bytes (botL T) := by
  unfold botL; split
  · exact h.drop _
  · intro c hc; simp at hc; omega
theorem bot_len (T : List Nat) : (botL T).length ≤ T.length + 1 := by
  unfold botL; split <;> simp; omega
/-- What is parsed well is a right fraction. -/
theorem parse_right {L : List Nat} (h : parseOK L = true) : rightB (sgnB L) (digs (decV (topL L))) (digs (decV (botL (restL L)))) = true := by
  unfold parseOK at h
  rw [parse_same (rest_head L)] at h
  unfold refOK at h
  simp only [Bool.and_eq_true] at h
  exact h.2
theorem print_bytes (q : Rat) : Bytes (printL q) := by
  intro c hc
  unfold printL at hc
  simp only [List.mem_append] at hc
  rcases hc with (hc | hc) | hc
  · unfold headL at hc; split at hc
    · simp at hc; omega
    · simp at hc
  · exact decS_lt _ c hc
  · unfold tailL at hc; split at hc
    · simp at hc
    · simp only [List.mem_cons] at hc
      rcases hc with hc | hc
      · omega
      · exact decS_lt _ c hc
theorem eq_strL {A B : List Nat} (hA : Bytes A) (hB : Bytes B) : ((strL A).toList == (strL B).toList) = decide (A = B) := by
  by_cases h : A = B
  · subst h; simp
  · rw [decide_eq_false h]
    have : (strL A).toList ≠ (strL B).toList := fun e => h (strL_inj hA hB (by
      rw [ByteArray.toList_eq, ByteArray.toList_eq] at e
      apply ByteArray.ext
      exact Array.toList_inj.1 e))
    simpa using this
theorem run_from_strL (T : List Nat) (k : Nat) (hk : k ≤ T.length) (w : World) : (Instr.slice 9 (.string (strL T)) (some (.int .i64 (k : Int))) none none).run Try.prog w = .ok (.string (strL (T.drop k))) w := by
  rw [run_slice_string_l w 9 (strL T) Try.underlying9 .i64 (k : Int) (by omega) (by rw [strL_size]; omega)]
  rw [Int.toNat_natCast, strL_from]
theorem run_to_strL (T : List Nat) (k : Nat) (hk : k ≤ T.length) (w : World) : (Instr.slice 9 (.string (strL T)) none (some (.int .i64 (k : Int))) none).run Try.prog w = .ok (.string (strL (T.take k))) w := by
  rw [run_slice_string_h w 9 (strL T) Try.underlying9 .i64 (k : Int) (by omega) (by rw [strL_size]; omega)]
  rw [Int.toNat_natCast, strL_to]

/-- What Parse tells. -/
def ParsePost (w : World) (ok : Bool) (q : Rat) (e : Ending) (w' : World) : Prop :=
  (if ok then ∃ r, e = .returned (.tuple #[r, .int .i64 0]) ∧ FracV w' r q else e = .returned (.tuple #[.agg #[Value.bool false, Value.slice none 0 0, Value.slice none 0 0], .int .i64 10])) ∧ Below w.heap.size w w'
/-- Digits, whether they are read or not. -/
def DigY (w : World) (ok : Bool) (x : Nat) (e : Ending) (w' : World) : Prop :=
  (∃ a n c y, e = .returned (.tuple #[.slice a n c, .bool ok]) ∧ Hid ((ok = true → y = x) ∧ IsW w' (.slice a n c) (digs y) ∧ (digs y).length ≤ 40)) ∧ Below w.heap.size w w'
theorem dig_y {w w' : World} {ok : Bool} {x : Nat} {e : Ending} (hx : ok = true → (digs x).length ≤ 40) (h : DigPost w ok x e w') : DigY w ok x e w' := by
  obtain ⟨⟨a, n, c, he, h1, h2⟩, hb⟩ := h
  refine ⟨?_, hb⟩
  cases ok
  · obtain ⟨y, hy, hl⟩ := h2.out
    exact ⟨a, n, c, y, he, Lib.hid ⟨fun h => (by cases h), hy, hl⟩⟩
  · exact ⟨a, n, c, x, he, Lib.hid ⟨fun _ => rfl, h1.out rfl, hx rfl⟩⟩
theorem numB_len {T : List Nat} (h : numB T = true) : (digs (decV T)).length ≤ 40 := by
  simp only [numB, Bool.and_eq_true, decide_eq_true_eq] at h
  exact dec_len40 h.2 h.1
theorem num1_num {T : List Nat} (h : num1B T = true) : numB T = true := by
  simp only [num1B, Bool.and_eq_true] at h
  exact h.2

set_option maxRecDepth 8000 in
set_option maxHeartbeats 8000000 in
theorem parse_w {w : World} {L : List Nat} (hL : Bytes L) (hl : L.length ≤ 900) :
    Calls Try.prog 39 #[.string (strL L)] w (ParsePost w (parseOK L) (parseQ L)) := by
  obtain ⟨w1, hw1⟩ : ∃ w1, w1 = w.alloc (Obj.cells #[Value.bool false, Value.slice none 0 0, Value.slice none 0 0] 24) := ⟨_, rfl⟩
  have HB1 : Hid (Below w.heap.size w w1) := Lib.hid (by rw [hw1]; exact (Below.refl _ _).alloc (Nat.le_refl _) _)
  have HR1 : Hid (w1.heap[w.heap.size]? = some (.cells #[Value.bool false, Value.slice none 0 0, Value.slice none 0 0] 24 (0, 0))) := Lib.hid (by rw [hw1]; exact heap_alloc_new w _)
  have HW1 := Lib.hid hw1.symm
  clear hw1
  have HL := Lib.hid hL
  have hs := strL_size L
  obtain ⟨n, hn⟩ : ∃ n, n = L.length := ⟨_, rfl⟩
  rw [← hn] at hs hl
  have HN := Lib.hid hn
  obtain ⟨b, hb⟩ : ∃ b, b = sgnB L := ⟨_, rfl⟩
  obtain ⟨T, hT⟩ : ∃ T, T = restL L := ⟨_, rfl⟩
  have HBT : Hid (Bytes T) := Lib.hid (by rw [hT]; exact hL.rest)
  have HTL : Hid (T.length ≤ 900) := Lib.hid (by rw [hT]; have := rest_len L; omega)
  have HPR : Hid (parseOK L = true → rightB b (digs (decV (T.take (slashAt T)))) (digs (decV (botL T))) = true) := Lib.hid (fun h => by rw [hb, hT]; exact parse_right h)
  obtain ⟨q, hq⟩ : ∃ q, q = parseQ L := ⟨_, rfl⟩
  have HQ : Hid (q = fixR b (digs (decV (T.take (slashAt T)))) (digs (decV (botL T)))) := Lib.hid (by rw [hq, hb, hT]; rfl)
  obtain ⟨ok, hok⟩ : ∃ ok, ok = parseOK L := ⟨_, rfl⟩
  have HOK : Hid (ok = (numB (T.take (slashAt T)) && numB (botL T) && decide (printL q = L))) := Lib.hid (by
    rw [hok]; unfold parseOK fracOK
    rw [sgn_split, ← hT, HQ.out, hb])
  have HSG : Hid (b = decide (L.head? = some 45)) := Lib.hid (by rw [hb]; rfl)
  have HTT : Hid (T = if b then L.drop 1 else L) := Lib.hid (by rw [hT, hb]; rfl)
  rw [← hok] at HPR
  rw [← hq, ← hok]
  clear hL hn hb hT hq hok
  go_enter Try.func39, Try.ntmps39
  go_upto_region 2 with fail
  rw [HW1.out]
  go_cut [22] (fun c wr => c = .bool b ∧ w1 = wr)
  case first =>
    by_cases h0 : 0 < n
    · have t0 : decide ((0 : Int) < (n : Int)) = true := by simp; omega
      have hix : ∀ w', (Instr.index 9 (.string (strL L)) (.int .i64 0)).run Try.prog w' = .ok (.int .u8 (nth L 0 : Nat)) w' := run_index_strL HL.out (i := 0) (by rw [← HN.out]; exact h0)
      obtain ⟨c, hc⟩ : ∃ c, c = nth L 0 := ⟨_, rfl⟩
      rw [← hc] at hix
      have HC : Hid (b = decide (c = 45)) := Lib.hid (by
        rw [HSG.out, hc]
        have h1 := HN.out
        match L, h1 with
        | [], h1 => rw [h1] at h0; simp at h0
        | d :: M, _ => simp [nth])
      by_cases h45 : c = 45
      · have t1 : ((c : Int) == 45) = true := by simp; omega
        have HF : Hid (b = true) := Lib.hid (by rw [HC.out, decide_eq_true h45])
        clear h45 hc
        go_wp2_with fail
        go_meet
        exact ⟨by rw [HF.out], rfl⟩
      · have t1 : ((c : Int) == 45) = false := by simp; omega
        have HF : Hid (b = false) := Lib.hid (by rw [HC.out, decide_eq_false h45])
        clear h45 hc
        go_wp2_with fail
        go_meet
        exact ⟨by rw [HF.out], rfl⟩
    · have t0 : decide ((0 : Int) < (n : Int)) = false := by simp; omega
      have HF : Hid (b = false) := Lib.hid (by
        rw [HSG.out]
        have h1 : L = [] := List.eq_nil_of_length_eq_zero (by rw [← HN.out]; omega)
        rw [h1]; rfl)
      go_wp2_with fail
      go_meet
      exact ⟨by rw [HF.out], rfl⟩
  case rest =>
    obtain ⟨rfl, rfl⟩ := hcut
    go_upto_if 22 with fail
    go_cut [4, 5] (fun tv bv wr => tv = .string (strL T) ∧ bv = .bool b ∧ w1 = wr)
    case first =>
      cases b with
      | true =>
        have hsl : ∀ w', (Instr.slice 9 (.string (strL L)) (some (.int .i64 1)) none none).run Try.prog w' = .ok (.string (strL T)) w' := fun w' => by
          have h9 := run_from_strL L 1 (by
            have h8 := HSG.out
            match L, h8 with
            | d :: M, _ => simp) w'
          rw [HTT.out]; exact h9
        go_wp2_with fail
        go_meet
        exact ⟨rfl, rfl, rfl⟩
      | false =>
        have HE : Hid (T = L) := Lib.hid (by rw [HTT.out]; rfl)
        go_wp2_with fail
        go_meet
        exact ⟨by rw [HE.out], rfl, rfl⟩
    case rest =>
      obtain ⟨rfl, rfl, rfl⟩ := hcut
      have KS := Lib.hid (slash_w (w := w1) HBT.out (by have := HTL.out; omega))
      obtain ⟨p, hp⟩ : ∃ p, p = slashAt T := ⟨_, rfl⟩
      obtain ⟨tp, htp⟩ : ∃ tp, tp = T.take (slashAt T) := ⟨_, rfl⟩
      obtain ⟨bt, hbt⟩ : ∃ bt, bt = botL T := ⟨_, rfl⟩
      have HB3 : Hid (Bytes tp ∧ Bytes bt ∧ tp.length ≤ 901 ∧ bt.length ≤ 901) := Lib.hid ⟨by rw [htp]; exact HBT.out.take _, by rw [hbt]; exact HBT.out.bot, by rw [htp, List.length_take]; have := HTL.out; omega, by rw [hbt]; have := bot_len T; have := HTL.out; omega⟩
      have HPP := Lib.hid hp
      have HTP := Lib.hid htp
      have HBO := Lib.hid hbt
      rw [← htp, ← hbt] at HPR HQ HOK
      have hst := strL_size T
      obtain ⟨m, hm⟩ : ∃ m, m = T.length := ⟨_, rfl⟩
      have HM := Lib.hid hm
      rw [← hm] at hst KS
      rw [← hp] at KS
      obtain ⟨pv, hpv⟩ : ∃ pv : Int, pv = if p < m then (p : Int) else -1 := ⟨_, rfl⟩
      rw [← hpv] at KS
      have HPV := Lib.hid hpv
      have hm9 : m ≤ 900 := by rw [hm]; exact HTL.out
      have hpm : p ≤ m := by rw [hp, hm]; exact slash_le T
      clear hp htp hbt hm hpv
      go_wp2_with fail
      refine KS.out.mono ?_
      rintro en0 w0 ⟨rfl, rfl⟩
      go_upto_if 29 with fail
      go_cut [6, 7] (fun xv yv wr => xv = .string (strL tp) ∧ yv = .string (strL bt) ∧ ∃ k, wr = w1.drewN k)
      case first =>
        by_cases hpl : p < m
        · have HV : Hid (pv = (p : Int)) := Lib.hid (by rw [HPV.out, if_pos hpl])
          have hs1 : ∀ w', (Instr.slice 9 (.string (strL T)) none (some (.int .i64 (p : Int))) none).run Try.prog w' = .ok (.string (strL tp)) w' := fun w' => by
            rw [HTP.out, ← HPP.out]; exact run_to_strL T p (by rw [← HM.out]; exact hpm) w'
          have hs2 : ∀ w', (Instr.slice 9 (.string (strL T)) (some (.int .i64 ((p : Int) + 1))) none none).run Try.prog w' = .ok (.string (strL bt)) w' := fun w' => by
            have h9 := run_from_strL T (p + 1) (by rw [← HM.out]; omega) w'
            rw [HBO.out]; unfold botL
            rw [← HPP.out, if_pos (by rw [← HM.out]; exact hpl)]
            exact h9
          have t0 : decide ((0 : Int) ≤ pv) = true := by rw [HV.out]; simp
          have t1 : decide ((0 : Int) ≤ (p : Int)) = true := by simp
          have hv := HV.out
          subst hv
          clear hpl
          go_wp2_with fail
          go_quiet (fail)
          go_wp2_with fail
          go_meet
          exact ⟨rfl, rfl, _, rfl⟩
        · have HV : Hid (pv = -1) := Lib.hid (by rw [HPV.out, if_neg hpl])
          have HE : Hid (tp = T ∧ bt = [49]) := Lib.hid ⟨by rw [HTP.out, ← HPP.out]; exact List.take_of_length_le (by rw [← HM.out]; omega), by rw [HBO.out]; unfold botL; rw [← HPP.out, if_neg (by rw [← HM.out]; exact hpl)]⟩
          have t0 : decide ((0 : Int) ≤ pv) = false := by rw [HV.out]; simp
          have hv := HV.out
          subst hv
          clear hpl
          go_wp2_with fail
          go_meet
          exact ⟨by rw [HE.out.1], by rw [HE.out.2]; rfl, 0, (World.drewN_zero _).symm⟩
      case rest =>
        obtain ⟨rfl, rfl, kd, hwd⟩ := hcut
        obtain ⟨w2, rfl⟩ : ∃ w8 : World, w8 = wc := ⟨_, rfl⟩
        have HZ2 : Hid (Below w1.heap.size w1 w2) := Lib.hid (by rw [hwd]; exact below_drewN (Below.refl _ _) _)
        clear hwd
        have K1 := Lib.hid (fromDigits_w (w := w2) HB3.out.1 (by have := HB3.out.2.2.1; omega))
        have K2 := Lib.hid (fun w' => fromDigits_w (w := w') HB3.out.2.1 (by have := HB3.out.2.2.2; omega))
        have KY1 := Lib.hid (fun h => numB_len (T := tp) h)
        have KY2 := Lib.hid (fun h => numB_len (T := bt) h)
        obtain ⟨o1, ho1⟩ : ∃ o, o = numB tp := ⟨_, rfl⟩
        obtain ⟨o2, ho2⟩ : ∃ o, o = numB bt := ⟨_, rfl⟩
        rw [← ho1] at K1 KY1 HOK
        rw [← ho2] at K2 KY2 HOK
        obtain ⟨x1, hx1⟩ : ∃ x, x = decV tp := ⟨_, rfl⟩
        obtain ⟨x2, hx2⟩ : ∃ x, x = decV bt := ⟨_, rfl⟩
        rw [← hx1] at K1 KY1 HPR HQ
        rw [← hx2] at K2 KY2 HPR HQ
        clear ho1 ho2 hx1 hx2
        go_wp2_with fail
        refine K1.out.mono ?_
        rintro en3 w3 hd3
        obtain ⟨⟨a3, n3, c3, y1, rfl, g3⟩, hb3⟩ := dig_y KY1.out hd3
        clear hd3
        go_wp2_with fail
        refine (K2.out _).mono ?_
        rintro en4 w4 hd4
        obtain ⟨⟨a4, n4, c4, y2, rfl, g4⟩, hb4⟩ := dig_y KY2.out hd4
        clear hd4
        have HY1 : Hid (IsW w4 (.slice a3 n3 c3) (digs y1)) := Lib.hid (g3.out.2.1.below hb4)
        go_wp2_with fail
        refine (clone_w HY1.out).mono ?_
        rintro en5 w5 ⟨⟨r5, rfl, hr5, -⟩, hb5⟩
        obtain ⟨a5, n5, c5, he5⟩ := hr5.form
        subst he5
        go_wp2_with fail
        refine (clone_w (g4.out.2.1.below hb5)).mono ?_
        rintro en6 w6 ⟨⟨r6, rfl, hr6, -⟩, hb6⟩
        obtain ⟨a6, n6, c6, he6⟩ := hr6.form
        subst he6
        go_wp2_with ((with_reducible refine at_store ?_); refine wpList_store_var rfl _ _ _ rfl w6.heap.size rfl _ rfl _ _ (heap_alloc_new _ _) ifrac rfl frac_one ?_; intro w7 h7 hon7; refine halt ?_)
        have hb7 : Below w6.heap.size w6 w7 := below_only ((Below.refl _ _).alloc (Nat.le_refl _) _) hon7 (Nat.le_refl _)
        have hz7 := below_trans HZ2.out (below_trans hb3 (below_trans hb4 (below_trans hb5 (below_trans hb6 hb7))))
        have HF7 : Hid (RawF w7 (.agg #[.bool b, .slice a5 n5 c5, .slice a6 n6 c6]) b (digs y1) (digs y2)) := Lib.hid ⟨_, _, rfl, hr5.below (below_trans hb6 hb7), hr6.below hb7⟩
        have RC := Lib.hid (cells_later h7)
        have HW7 := Lib.hid (below_trans HB1.out hz7)
        have HR7 : Hid (w7.heap[w.heap.size]? = some (.cells #[Value.bool false, Value.slice none 0 0, Value.slice none 0 0] 24 (0, 0))) := Lib.hid ((hz7.block _ (lt_of_block HR1.out)).trans HR1.out)
        have HG : Hid ((o1 = true → y1 = x1) ∧ (o2 = true → y2 = x2)) := Lib.hid ⟨g3.out.1, g4.out.1⟩
        clear h7 hon7 hb7 hb6 hb5 hb4 hb3 hr5 hr6 g3 g4 hz7
        have hy7 := Below.refl w7.heap.size w7
        have x0 := RC.out 0 _ rfl _ hy7
        have xx1 := RC.out 1 _ rfl _ hy7
        have xx2 := RC.out 2 _ rfl _ hy7
        refine go_on ?_
        go_upto_region 11 with fail
        go_cut [62] (fun c wr => c = .bool ok ∧ Hid (Below w7.heap.size w7 wr))
        case first =>
          cases o1 with
          | false =>
            have HF : Hid (ok = false) := Lib.hid (by rw [HOK.out]; rfl)
            go_wp2_with fail
            go_meet
            exact ⟨by rw [HF.out], Lib.hid hy7⟩
          | true =>
            cases o2 with
            | false =>
              have HF : Hid (ok = false) := Lib.hid (by rw [HOK.out]; rfl)
              go_wp2_with fail
              go_meet
              exact ⟨by rw [HF.out], Lib.hid hy7⟩
            | true =>
              have KP := Lib.hid (print_w HF7.out)
              rw [HG.out.1 rfl, HG.out.2 rfl, ← HQ.out] at KP
              have HFO : Hid (ok = decide (printL q = L)) := Lib.hid (by rw [HOK.out]; rfl)
              have heq := eq_strL (print_bytes q) HL.out
              rw [← HFO.out] at heq
              go_wp2_with fail
              refine KP.out.mono ?_
              rintro en8 w8 ⟨rfl, hb8⟩
              go_wp2_with fail
              go_meet
              exact ⟨rfl, Lib.hid hb8⟩
        case rest =>
          obtain ⟨w9, rfl⟩ : ∃ w8 : World, w8 = wc := ⟨_, rfl⟩
          obtain ⟨rfl, HB9⟩ := hcut
          have HR9 : Hid (w9.heap[w.heap.size]? = some (.cells #[Value.bool false, Value.slice none 0 0, Value.slice none 0 0] 24 (0, 0))) := Lib.hid ((HB9.out.block _ (lt_of_block HR7.out)).trans HR7.out)
          have HW9 := Lib.hid (below_trans HW7.out HB9.out)
          clear x0 xx1 xx2 hy7
          have x0 := RC.out 0 _ rfl _ HB9.out
          have xx1 := RC.out 1 _ rfl _ HB9.out
          have xx2 := RC.out 2 _ rfl _ HB9.out
          have r0 := cells_later HR9.out 0 _ rfl _ (Below.refl _ _)
          have r1 := cells_later HR9.out 1 _ rfl _ (Below.refl _ _)
          have r2 := cells_later HR9.out 2 _ rfl _ (Below.refl _ _)
          have f0 := frozen_of_row _ _ 0 _ _ HR9.out
          have f1 := frozen_of_row _ _ 1 _ _ HR9.out
          have f2 := frozen_of_row _ _ 2 _ _ HR9.out
          cases ok with
          | true =>
            have HO : Hid (o1 = true ∧ o2 = true) := Lib.hid (by
              have h9 := HOK.out
              cases o1 <;> cases o2 <;> simp at h9 ⊢)
            have HRR := Lib.hid (right_rat (ws_digs x1) (ws_digs x2) (HPR.out rfl))
            have HFV : Hid (FracV w9 (.agg #[.bool b, .slice a5 n5 c5, .slice a6 n6 c6]) q) := Lib.hid (by
              have h9 := HF7.out.below HB9.out
              rw [HG.out.1 HO.out.1, HG.out.2 HO.out.2] at h9
              have h8 := HRR.out
              rw [← HQ.out] at h8
              obtain ⟨u, d, he, hu, hd⟩ := h9
              rw [h8.1] at hu
              rw [h8.2.1] at hd
              exact ⟨u, d, by rw [he, h8.2.2.1], hu, hd⟩)
            have HF9 := Lib.hid (HFV.out.other HR9.out (frac3_only _ _ b (Value.slice a5 n5 c5) (Value.slice a6 n6 c6)))
            clear HG HPR HOK
            go_wp2_with fail
            exact bodyPost_ret (results_row_tmp rfl _ _ w.heap.size _ _ _ _ rfl (frac3_heap HR9.out) Try.underlying24 rfl ifrac) rfl ⟨by rw [if_pos rfl]; exact ⟨_, rfl, HF9.out⟩, below_only HW9.out (frac3_only _ _ _ _ _) (by omega)⟩
          | false =>
            go_wp2_with fail
            exact bodyPost_ret (results_row_tmp rfl _ _ w.heap.size _ _ _ _ rfl (frac3_heap HR9.out) Try.underlying24 rfl ifrac) rfl ⟨by rw [if_neg (by simp)]; rfl, below_only HW9.out (frac3_only _ _ _ _ _) (by omega)⟩
end Go.Proofs.Ytebgkfcglmjokaa

/- Texts of fractions: the reference's Parse. -/
namespace Go.Proofs.Ytebgkfcglmjokaa
open Go.RowKit
attribute [local go_sem ↓] Go.wp_at_zero Go.wp_at_succ

set_option maxRecDepth 8000 in
set_option maxHeartbeats 8000000 in
theorem rparse_w {w : World} {L : List Nat} (hL : Bytes L) (hl : L.length ≤ 900) :
    Calls Try.prog 40 #[.string (strL L)] w (ParsePost w (parseOK L) (parseQ L)) := by
  have HL := Lib.hid hL
  have hs := strL_size L
  obtain ⟨n, hn⟩ : ∃ n, n = L.length := ⟨_, rfl⟩
  rw [← hn] at hs hl
  have HN := Lib.hid hn
  obtain ⟨b, hb⟩ : ∃ b, b = sgnB L := ⟨_, rfl⟩
  obtain ⟨T, hT⟩ : ∃ T, T = restL L := ⟨_, rfl⟩
  have HBT : Hid (Bytes T) := Lib.hid (by rw [hT]; exact hL.rest)
  have HTL : Hid (T.length ≤ 900) := Lib.hid (by rw [hT]; have := rest_len L; omega)
  obtain ⟨q, hq⟩ : ∃ q, q = parseQ L := ⟨_, rfl⟩
  have HQ : Hid (q = fixR b (digs (decV (T.take (slashAt T)))) (digs (decV (botL T)))) := Lib.hid (by rw [hq, hb, hT]; rfl)
  obtain ⟨ok, hok⟩ : ∃ ok, ok = parseOK L := ⟨_, rfl⟩
  obtain ⟨o2, ho2⟩ : ∃ o, o = (!decide (slashAt T < T.length) || (num1B (T.drop (slashAt T + 1)) && !decide (decV (T.drop (slashAt T + 1)) = 0) && !decide (decV (T.drop (slashAt T + 1)) = 1))) := ⟨_, rfl⟩
  have HOK : Hid (ok = (num1B (T.take (slashAt T)) && !(b && decide (decV (T.take (slashAt T)) = 0)) && o2 && rightB b (digs (decV (T.take (slashAt T)))) (digs (decV (botL T))))) := Lib.hid (by
    rw [hok]; unfold parseOK
    rw [parse_same (rest_head L)]
    unfold refOK
    rw [ho2, ← hT, hb])
  have HO2 := Lib.hid ho2
  have HSG : Hid (b = decide (L.head? = some 45)) := Lib.hid (by rw [hb]; rfl)
  have HTT : Hid (T = if b then L.drop 1 else L) := Lib.hid (by rw [hT, hb]; rfl)
  rw [← hq, ← hok]
  clear hL hn hb hT hq hok ho2
  go_enter Try.func40, Try.ntmps40
  go_wp2_with ((with_reducible refine at_store ?_); refine wpList_store_var rfl _ _ _ rfl (w.heap.size + 1) rfl _ rfl _ _ (heap_alloc2_new w _ _) ifrac rfl frac_one ?_; intro w1 h1 hon1; refine halt ?_)
  have HB1 : Hid (Below w.heap.size w w1) := Lib.hid (below_only (((Below.refl _ _).alloc (Nat.le_refl _) _).alloc (by simp) _) hon1 (by omega))
  have HR1 : Hid (w1.heap[w.heap.size]? = some (.cells #[Value.bool false, Value.slice none 0 0, Value.slice none 0 0] 24 (0, 0))) := Lib.hid ((hon1.block _ (by omega)).trans (heap_alloc2_old w _ _))
  have RB := Lib.hid (cells_later h1)
  clear h1 hon1
  refine go_on ?_
  go_upto_region 3 with fail
  go_cut [6] (fun c wr => c = .bool b ∧ w1 = wr)
  case first =>
    by_cases h0 : 0 < n
    · have t0 : decide ((0 : Int) < (n : Int)) = true := by simp; omega
      have hix : ∀ w', (Instr.index 9 (.string (strL L)) (.int .i64 0)).run Try.prog w' = .ok (.int .u8 (nth L 0 : Nat)) w' := run_index_strL HL.out (i := 0) (by rw [← HN.out]; exact h0)
      obtain ⟨c, hc⟩ : ∃ c, c = nth L 0 := ⟨_, rfl⟩
      rw [← hc] at hix
      have HC : Hid (b = decide (c = 45)) := Lib.hid (by
        rw [HSG.out, hc]
        have h1 := HN.out
        match L, h1 with
        | [], h1 => rw [h1] at h0; simp at h0
        | d :: M, _ => simp [nth])
      by_cases h45 : c = 45
      · have t1 : ((c : Int) == 45) = true := by simp; omega
        have HF : Hid (b = true) := Lib.hid (by rw [HC.out, decide_eq_true h45])
        clear h45 hc
        go_wp2_with fail
        go_meet
        exact ⟨by rw [HF.out], rfl⟩
      · have t1 : ((c : Int) == 45) = false := by simp; omega
        have HF : Hid (b = false) := Lib.hid (by rw [HC.out, decide_eq_false h45])
        clear h45 hc
        go_wp2_with fail
        go_meet
        exact ⟨by rw [HF.out], rfl⟩
    · have t0 : decide ((0 : Int) < (n : Int)) = false := by simp; omega
      have HF : Hid (b = false) := Lib.hid (by
        rw [HSG.out]
        have h1 : L = [] := List.eq_nil_of_length_eq_zero (by rw [← HN.out]; omega)
        rw [h1]; rfl)
      go_wp2_with fail
      go_meet
      exact ⟨by rw [HF.out], rfl⟩
  case rest =>
    obtain ⟨rfl, rfl⟩ := hcut
    go_upto_if 25 with fail
    go_cut [5] (fun tv wr => tv = .string (strL T) ∧ w1 = wr)
    case first =>
      cases b with
      | true =>
        have hsl : ∀ w', (Instr.slice 9 (.string (strL L)) (some (.int .i64 1)) none none).run Try.prog w' = .ok (.string (strL T)) w' := fun w' => by
          have h9 := run_from_strL L 1 (by
            have h8 := HSG.out
            match L, h8 with
            | d :: M, _ => simp) w'
          rw [HTT.out]; exact h9
        go_wp2_with fail
        go_meet
        exact ⟨rfl, rfl⟩
      | false =>
        have HE : Hid (T = L) := Lib.hid (by rw [HTT.out]; rfl)
        go_wp2_with fail
        go_meet
        exact ⟨by rw [HE.out], rfl⟩
    case rest =>
      obtain ⟨rfl, rfl⟩ := hcut
      obtain ⟨p, hp⟩ : ∃ p, p = slashAt T := ⟨_, rfl⟩
      obtain ⟨tp, htp⟩ : ∃ tp, tp = T.take (slashAt T) := ⟨_, rfl⟩
      obtain ⟨bt, hbt⟩ : ∃ bt, bt = botL T := ⟨_, rfl⟩
      have HB3 : Hid (Bytes tp ∧ Bytes bt ∧ tp.length ≤ 901 ∧ bt.length ≤ 901) := Lib.hid ⟨by rw [htp]; exact HBT.out.take _, by rw [hbt]; exact HBT.out.bot, by rw [htp, List.length_take]; have := HTL.out; omega, by rw [hbt]; have := bot_len T; have := HTL.out; omega⟩
      have HPP := Lib.hid hp
      have HTP := Lib.hid htp
      have HBO := Lib.hid hbt
      rw [← htp, ← hbt] at HQ HOK
      have hst := strL_size T
      obtain ⟨m, hm⟩ : ∃ m, m = T.length := ⟨_, rfl⟩
      have HM := Lib.hid hm
      rw [← hm] at hst
      have hm9 : m ≤ 900 := by rw [hm]; exact HTL.out
      have hpm : p ≤ m := by rw [hp, hm]; exact slash_le T
      clear hp htp hbt hm
      go_wp2_with fail
      go_loop [7, 8] (fun av iv => ∃ i at9 : Nat, i ≤ m ∧ iv = .int .i64 i ∧ av = .int .i64 at9 ∧ at9 ≤ m ∧ Hid ((at9 = m ∧ ∀ j, j < i → nth T j ≠ 47) ∨ (at9 = p ∧ at9 < m))) (fun _ iv => m - (intOf iv).toNat)
      case atStart => exact ⟨0, m, Nat.zero_le _, rfl, rfl, Nat.le_refl _, Lib.hid (Or.inl ⟨rfl, fun j h => absurd h (Nat.not_lt_zero j)⟩)⟩
      case round =>
        obtain ⟨i, at9, hi, rfl, rfl, hat, hd⟩ := hrel
        obtain ⟨cb, hcb⟩ : ∃ cb, cb = (decide (i < m) && decide (at9 = m)) := ⟨_, rfl⟩
        have HCB := Lib.hid hcb
        clear hcb
        go_upto_region 8 with fail
        go_cut [39] (fun c wr => c = .bool cb ∧ w1 = wr)
        case first =>
          by_cases him : i < m
          · have t0 : decide ((i : Int) < (m : Int)) = true := by simp; omega
            by_cases ham : at9 = m
            · have t1 : ((at9 : Int) == (m : Int)) = true := by simp; omega
              have HF : Hid (cb = true) := Lib.hid (by rw [HCB.out, decide_eq_true him, decide_eq_true ham]; rfl)
              subst ham
              go_wp2_with fail
              go_meet
              exact ⟨by rw [HF.out], rfl⟩
            · have t1 : ((at9 : Int) == (m : Int)) = false := by simp; omega
              have HF : Hid (cb = false) := Lib.hid (by rw [HCB.out, decide_eq_false ham, Bool.and_false])
              go_wp2_with fail
              go_meet
              exact ⟨by rw [HF.out], rfl⟩
          · have t0 : decide ((i : Int) < (m : Int)) = false := by simp; omega
            have HF : Hid (cb = false) := Lib.hid (by rw [HCB.out, decide_eq_false him]; rfl)
            go_wp2_with fail
            go_meet
            exact ⟨by rw [HF.out], rfl⟩
        case rest =>
          obtain ⟨rfl, rfl⟩ := hcut
          cases cb with
          | true =>
            have him : i < m ∧ at9 = m := by
              have h9 := HCB.out
              simpa using h9
            obtain ⟨him, ham⟩ := him
            have hix := run_index_strL HBT.out (i := i) (by rw [← HM.out]; exact him)
            obtain ⟨c, hc⟩ : ∃ c, c = nth T i := ⟨_, rfl⟩
            rw [← hc] at hix
            have HD9 : Hid (∀ j, j < i → nth T j ≠ 47) := Lib.hid (by
              rcases hd.out with h | h
              · exact h.2
              · omega)
            by_cases h47 : c = 47
            · have t1 : ((c : Int) == 47) = true := by simp; omega
              have HP : Hid (i = p) := Lib.hid (by
                rw [HPP.out]
                exact (slash_eq (by rw [← HM.out]; exact hi) HD9.out (fun _ => by rw [← hc]; exact h47)).symm)
              clear h47 hc ham
              go_wp2_with fail
              go_round
              case rel => exact ⟨i + 1, i, by omega, by go_num, rfl, by omega, Lib.hid (Or.inr ⟨HP.out, him⟩)⟩
              case measure => simp [intOf]; omega
            · have t1 : ((c : Int) == 47) = false := by simp; omega
              have HD2 : Hid (∀ j, j < i + 1 → nth T j ≠ 47) := Lib.hid (fun j hj => by
                by_cases e : j = i
                · subst e; rw [← hc]; exact h47
                · exact HD9.out j (by omega))
              clear h47 hc
              go_wp2_with fail
              go_round
              case rel => exact ⟨i + 1, at9, by omega, by go_num, rfl, hat, Lib.hid (Or.inl ⟨ham, HD2.out⟩)⟩
              case measure => simp [intOf]; omega
          | false =>
            have hatp : at9 = p := by
              have h9 := HCB.out
              rcases hd.out with h | h
              · rw [decide_eq_true h.1, Bool.and_true] at h9
                have h8 : ¬ i < m := of_decide_eq_false h9.symm
                rw [HPP.out, h.1]
                exact (slash_eq (p := m) (by rw [← HM.out]; exact Nat.le_refl _) (fun j hj => h.2 j (by omega)) (fun h7 => by rw [← HM.out] at h7; omega)).symm
              · exact h.1
            subst hatp
            clear hd HCB
            have hs1 : ∀ w', (Instr.slice 9 (.string (strL T)) none (some (.int .i64 (at9 : Int))) none).run Try.prog w' = .ok (.string (strL tp)) w' := fun w' => by
              rw [HTP.out, ← HPP.out]; exact run_to_strL T at9 (by rw [← HM.out]; exact hpm) w'
            have K1 := Lib.hid (number_w (w := w1) HB3.out.1 (by have := HB3.out.2.2.1; omega))
            have KY1 := Lib.hid (fun h => numB_len (T := tp) (num1_num h))
            obtain ⟨o1, ho1⟩ : ∃ o, o = num1B tp := ⟨_, rfl⟩
            rw [← ho1] at K1 KY1 HOK
            obtain ⟨x1, hx1⟩ : ∃ x, x = decV tp := ⟨_, rfl⟩
            obtain ⟨x2, hx2⟩ : ∃ x, x = decV bt := ⟨_, rfl⟩
            rw [← hx1] at K1 KY1 HOK HQ
            rw [← hx2] at HOK HQ
            have HX2 := Lib.hid hx2
            clear ho1 hx1 hx2
            go_wp2_with fail
            refine K1.out.mono ?_
            rintro en3 w3 hd3
            obtain ⟨⟨a3, n3, c3, y1, rfl, g3⟩, hb3⟩ := dig_y KY1.out hd3
            clear hd3 hs1
            have HZ3 := Lib.hid hb3
            have hn3 := g3.out.2.1.lenE
            have hn39 : n3 ≤ 1073741824 := by have := g3.out.2.1.len; omega
            have HN3 : Hid (n3 = 0 ↔ y1 = 0) := Lib.hid (by
              rw [hn3]
              constructor
              · intro h
                rcases Nat.eq_zero_or_pos y1 with h9 | h9
                · exact h9
                · rw [digs_pos (by omega)] at h; simp at h
              · intro h; rw [h, digs_zero]; rfl)
            obtain ⟨bd, hbd⟩ : ∃ bd, bd = (!o1 || (b && decide (n3 = 0))) := ⟨_, rfl⟩
            have HBD := Lib.hid hbd
            clear hb3 hn3 hbd
            go_upto_region 13 with fail
            go_cut [63] (fun c wr => c = .bool bd ∧ w3 = wr)
            case first =>
              cases o1 with
              | false =>
                have HF : Hid (bd = true) := Lib.hid (by rw [HBD.out]; rfl)
                go_wp2_with fail
                go_meet
                exact ⟨by rw [HF.out], rfl⟩
              | true =>
                cases b with
                | false =>
                  have HF : Hid (bd = false) := Lib.hid (by rw [HBD.out]; rfl)
                  go_wp2_with fail
                  go_meet
                  exact ⟨by rw [HF.out], rfl⟩
                | true =>
                  have t0 : ((n3 : Int) == 0) = bd := by
                    rw [HBD.out]
                    by_cases h : n3 = 0
                    · simp [h]
                    · simp [h]
                  go_wp2_with fail
                  go_meet
                  exact ⟨rfl, rfl⟩
            case rest =>
              obtain ⟨rfl, rfl⟩ := hcut
              cases bd with
              | true =>
                have HF : Hid (ok = false) := Lib.hid (by
                  have h9 := HBD.out
                  rw [HOK.out]
                  cases o1
                  · rfl
                  · have h8 : b = true ∧ n3 = 0 := by simpa using h9
                    have h7 : x1 = 0 := by rw [← g3.out.1 rfl]; exact HN3.out.1 h8.2
                    rw [h8.1, h7]; simp)
                have HRe : Hid (w3.heap[w.heap.size]? = some (.cells #[Value.bool false, Value.slice none 0 0, Value.slice none 0 0] 24 (0, 0))) := Lib.hid ((HZ3.out.block _ (lt_of_block HR1.out)).trans HR1.out)
                have HWe := Lib.hid (below_trans HB1.out HZ3.out)
                have b0 := RB.out 0 _ rfl _ HZ3.out
                have b1 := RB.out 1 _ rfl _ HZ3.out
                have b2 := RB.out 2 _ rfl _ HZ3.out
                have r0 := cells_later HRe.out 0 _ rfl _ (Below.refl _ _)
                have r1 := cells_later HRe.out 1 _ rfl _ (Below.refl _ _)
                have r2 := cells_later HRe.out 2 _ rfl _ (Below.refl _ _)
                have f0 := frozen_of_row _ _ 0 _ _ HRe.out
                have f1 := frozen_of_row _ _ 1 _ _ HRe.out
                have f2 := frozen_of_row _ _ 2 _ _ HRe.out
                go_wp2_with fail
                exact bodyPost_ret (results_row_tmp rfl _ _ w.heap.size _ _ _ _ rfl (frac3_heap HRe.out) Try.underlying24 rfl ifrac) rfl ⟨by rw [HF.out, if_neg (by simp)]; rfl, below_only HWe.out (frac3_only _ _ _ _ _) (by omega)⟩
              | false =>
                have HG1 : Hid (o1 = true ∧ (b && decide (x1 = 0)) = false ∧ y1 = x1) := Lib.hid (by
                  have h9 := HBD.out
                  cases o1
                  · simp at h9
                  · have h7 := g3.out.1 rfl
                    refine ⟨rfl, ?_, h7⟩
                    have h8 : (b && decide (n3 = 0)) = false := by simpa using h9
                    rw [← h7]
                    by_cases h6 : y1 = 0
                    · rw [decide_eq_true (HN3.out.2 h6)] at h8
                      rw [decide_eq_true h6]; exact h8
                    · rw [decide_eq_false h6, Bool.and_false])
                have HI3 : Hid (IsW w3 (.slice a3 n3 c3) (digs x1)) := Lib.hid (by have h9 := g3.out.2.1; rwa [HG1.out.2.2] at h9)
                have HLX : Hid ((digs x1).length ≤ 40) := Lib.hid (by have h9 := g3.out.2.2; rwa [HG1.out.2.2] at h9)
                clear g3 HBD HN3 KY1 K1
                go_wp2_with fail
                refine rone_w.mono ?_
                rintro en4 w4 ⟨⟨r4, rfl, hr4, -⟩, hb4⟩
                obtain ⟨a4, n4, c4, he4⟩ := hr4.form
                subst he4
                have HR4 := Lib.hid hr4
                have HZ4 := Lib.hid (below_trans HZ3.out hb4)
                have HI4 := Lib.hid (HI3.out.below hb4)
                clear hr4 hb4
                go_upto_if 69 with fail
                go_cut [11] (fun dv wr => ∃ (a : Option Addr) (n c : Nat), dv = .slice a n c ∧ Hid (IsW wr (.slice a n c) (digs x2)) ∧ Hid ((digs x2).length ≤ 40) ∧ Hid (o2 = true) ∧ Hid (Below w4.heap.size w4 wr))
                case first =>
                  by_cases hpl : at9 < m
                  · have t0 : decide ((at9 : Int) < (m : Int)) = true := by simp; omega
                    have HDR : Hid (bt = T.drop (at9 + 1)) := Lib.hid (by rw [HBO.out]; unfold botL; rw [← HPP.out, if_pos (by rw [← HM.out]; exact hpl)])
                    have hs2 : ∀ w', (Instr.slice 9 (.string (strL T)) (some (.int .i64 ((at9 : Int) + 1))) none none).run Try.prog w' = .ok (.string (strL bt)) w' := fun w' => by
                      have h9 := run_from_strL T (at9 + 1) (by rw [← HM.out]; omega) w'
                      rw [HDR.out]; exact h9
                    have K2 := Lib.hid (number_w (w := w4) HB3.out.2.1 (by have := HB3.out.2.2.2; omega))
                    have KY2 := Lib.hid (fun h => numB_len (T := bt) (num1_num h))
                    obtain ⟨o3, ho3⟩ : ∃ o, o = num1B bt := ⟨_, rfl⟩
                    have HO3 : Hid (o2 = (o3 && !decide (x2 = 0) && !decide (x2 = 1))) := Lib.hid (by
                      rw [HO2.out, ← HPP.out, ← HDR.out, ← HX2.out, ← ho3, decide_eq_true (by rw [← HM.out]; exact hpl)]; rfl)
                    rw [← ho3, ← HX2.out] at K2
                    rw [← ho3, ← HX2.out] at KY2
                    clear ho3
                    go_wp2_with fail
                    refine K2.out.mono ?_
                    rintro en5 w5 hd5
                    obtain ⟨⟨a5, n5, c5, y2, rfl, g5⟩, hb5⟩ := dig_y KY2.out hd5
                    clear hd5 hs2
                    have HZ5 := Lib.hid (below_trans HZ4.out hb5)
                    have HB5 := Lib.hid hb5
                    have hn59 : n5 ≤ 1073741824 := by have := g5.out.2.1.len; have := g5.out.2.1.lenE; omega
                    cases o3 with
                    | false =>
                      have HF : Hid (ok = false) := Lib.hid (by rw [HOK.out, HO3.out]; simp)
                      clear hb5
                      have HRe : Hid (w5.heap[w.heap.size]? = some (.cells #[Value.bool false, Value.slice none 0 0, Value.slice none 0 0] 24 (0, 0))) := Lib.hid ((HZ5.out.block _ (lt_of_block HR1.out)).trans HR1.out)
                      have HWe := Lib.hid (below_trans HB1.out HZ5.out)
                      have b0 := RB.out 0 _ rfl _ HZ5.out
                      have b1 := RB.out 1 _ rfl _ HZ5.out
                      have b2 := RB.out 2 _ rfl _ HZ5.out
                      have r0 := cells_later HRe.out 0 _ rfl _ (Below.refl _ _)
                      have r1 := cells_later HRe.out 1 _ rfl _ (Below.refl _ _)
                      have r2 := cells_later HRe.out 2 _ rfl _ (Below.refl _ _)
                      have f0 := frozen_of_row _ _ 0 _ _ HRe.out
                      have f1 := frozen_of_row _ _ 1 _ _ HRe.out
                      have f2 := frozen_of_row _ _ 2 _ _ HRe.out
                      go_wp2_with fail
                      exact bodyPost_ret (results_row_tmp rfl _ _ w.heap.size _ _ _ _ rfl (frac3_heap HRe.out) Try.underlying24 rfl ifrac) rfl ⟨by rw [HF.out, if_neg (by simp)]; rfl, below_only HWe.out (frac3_only _ _ _ _ _) (by omega)⟩
                    | true =>
                      have HY2 := Lib.hid (g5.out.1 rfl)
                      have HI5 : Hid (IsW w5 (.slice a5 n5 c5) (digs x2)) := Lib.hid (by have h9 := g5.out.2.1; rwa [HY2.out] at h9)
                      have HL5 : Hid ((digs x2).length ≤ 40) := Lib.hid (by have h9 := g5.out.2.2; rwa [HY2.out] at h9)
                      clear g5 hb5 KY2 K2
                      by_cases hx0 : x2 = 0
                      · have t1 : ((n5 : Int) == 0) = true := by
                          have h9 := HI5.out.lenE
                          rw [hx0, digs_zero] at h9
                          simp at h9
                          simp; omega
                        have HF : Hid (ok = false) := Lib.hid (by rw [HOK.out, HO3.out, decide_eq_true hx0]; simp)
                        clear hx0
                        have HRe : Hid (w5.heap[w.heap.size]? = some (.cells #[Value.bool false, Value.slice none 0 0, Value.slice none 0 0] 24 (0, 0))) := Lib.hid ((HZ5.out.block _ (lt_of_block HR1.out)).trans HR1.out)
                        have HWe := Lib.hid (below_trans HB1.out HZ5.out)
                        have b0 := RB.out 0 _ rfl _ HZ5.out
                        have b1 := RB.out 1 _ rfl _ HZ5.out
                        have b2 := RB.out 2 _ rfl _ HZ5.out
                        have r0 := cells_later HRe.out 0 _ rfl _ (Below.refl _ _)
                        have r1 := cells_later HRe.out 1 _ rfl _ (Below.refl _ _)
                        have r2 := cells_later HRe.out 2 _ rfl _ (Below.refl _ _)
                        have f0 := frozen_of_row _ _ 0 _ _ HRe.out
                        have f1 := frozen_of_row _ _ 1 _ _ HRe.out
                        have f2 := frozen_of_row _ _ 2 _ _ HRe.out
                        go_wp2_with fail
                        exact bodyPost_ret (results_row_tmp rfl _ _ w.heap.size _ _ _ _ rfl (frac3_heap HRe.out) Try.underlying24 rfl ifrac) rfl ⟨by rw [HF.out, if_neg (by simp)]; rfl, below_only HWe.out (frac3_only _ _ _ _ _) (by omega)⟩
                      · obtain ⟨eb, eo, en, ec, ed, hve, hvn, hvn0, hvc, hvt⟩ := word_test HI5.out (Nat.pos_of_ne_zero hx0)
                        simp only [Value.slice.injEq] at hve
                        obtain ⟨rfl, rfl, rfl⟩ := hve
                        have g0 := hvc _ (Below.refl _ _)
                        have t1 : ((n5 : Int) == 0) = false := by simp; omega
                        clear hvc hvn
                        by_cases hx1 : x2 = 1
                        · have hvt' : n5 = 1 ∧ ed = 1 := by
                            rcases hvt with h | h | h
                            · rw [hx1] at h; simp [oneB] at h
                            · rw [hx1] at h; simp [oneB] at h
                            · exact ⟨h.1, h.2.1⟩
                          have t2 : ((n5 : Int) == 1) = true := by simp; omega
                          have t3 : ((ed : Int) == 1) = true := by simp; omega
                          have HF : Hid (ok = false) := Lib.hid (by rw [HOK.out, HO3.out, decide_eq_true hx1]; simp)
                          clear hx0 hx1 hvt hvt'
                          have HRe : Hid (w5.heap[w.heap.size]? = some (.cells #[Value.bool false, Value.slice none 0 0, Value.slice none 0 0] 24 (0, 0))) := Lib.hid ((HZ5.out.block _ (lt_of_block HR1.out)).trans HR1.out)
                          have HWe := Lib.hid (below_trans HB1.out HZ5.out)
                          have b0 := RB.out 0 _ rfl _ HZ5.out
                          have b1 := RB.out 1 _ rfl _ HZ5.out
                          have b2 := RB.out 2 _ rfl _ HZ5.out
                          have r0 := cells_later HRe.out 0 _ rfl _ (Below.refl _ _)
                          have r1 := cells_later HRe.out 1 _ rfl _ (Below.refl _ _)
                          have r2 := cells_later HRe.out 2 _ rfl _ (Below.refl _ _)
                          have f0 := frozen_of_row _ _ 0 _ _ HRe.out
                          have f1 := frozen_of_row _ _ 1 _ _ HRe.out
                          have f2 := frozen_of_row _ _ 2 _ _ HRe.out
                          go_wp2_with fail
                          exact bodyPost_ret (results_row_tmp rfl _ _ w.heap.size _ _ _ _ rfl (frac3_heap HRe.out) Try.underlying24 rfl ifrac) rfl ⟨by rw [HF.out, if_neg (by simp)]; rfl, below_only HWe.out (frac3_only _ _ _ _ _) (by omega)⟩
                        · have HO : Hid (o2 = true) := Lib.hid (by rw [HO3.out, decide_eq_false hx0, decide_eq_false hx1]; rfl)
                          rcases hvt with h | h | h
                          · have t2 : ((n5 : Int) == 1) = false := by simp; omega
                            clear hx0 hx1 h
                            go_wp2_with fail
                            go_meet
                            exact ⟨_, _, _, rfl, HI5, HL5, HO, HB5⟩
                          · have t2 : ((n5 : Int) == 1) = true := by simp; omega
                            have t3 : ((ed : Int) == 1) = false := by simp; omega
                            clear hx0 hx1 h
                            go_wp2_with fail
                            go_meet
                            exact ⟨_, _, _, rfl, HI5, HL5, HO, HB5⟩
                          · exfalso
                            have h9 := h.2.2
                            simp [oneB] at h9
                            exact hx1 h9
                  · have t0 : decide ((at9 : Int) < (m : Int)) = false := by simp; omega
                    have HE : Hid (x2 = 1) := Lib.hid (by rw [HX2.out, HBO.out]; unfold botL; rw [← HPP.out, if_neg (by rw [← HM.out]; exact hpl)]; rfl)
                    have HO : Hid (o2 = true) := Lib.hid (by rw [HO2.out, ← HPP.out, decide_eq_false (by rw [← HM.out]; exact hpl)]; rfl)
                    have hpl9 := hpl
                    go_wp2_with fail
                    go_meet
                    exact ⟨_, _, _, rfl, Lib.hid (by rw [HE.out]; exact HR4.out), Lib.hid (by rw [HE.out, digs_one]; simp), HO, Lib.hid (Below.refl _ _)⟩
                case rest =>
                  obtain ⟨w6, rfl⟩ : ∃ w8 : World, w8 = wc := ⟨_, rfl⟩
                  obtain ⟨a6, n6, c6, rfl, HI6, HL6, HO6, HB6⟩ := hcut
                  have HOK2 : Hid (ok = rightB b (digs x1) (digs x2)) := Lib.hid (by rw [HOK.out, HG1.out.1, HG1.out.2.1, HO6.out]; simp)
                  clear HOK HO2
                  go_wp2_with ((with_reducible refine at_store ?_); refine wpList_store_var rfl _ _ _ rfl w6.heap.size rfl _ rfl _ _ (heap_alloc_new _ _) ifrac rfl frac_one ?_; intro w7 h7 hon7; refine halt ?_)
                  have hb7 : Below w6.heap.size w6 w7 := below_only ((Below.refl _ _).alloc (Nat.le_refl _) _) hon7 (Nat.le_refl _)
                  have HZ7 := Lib.hid (below_trans HZ4.out (below_trans HB6.out hb7))
                  have HF7 : Hid (RawF w7 (.agg #[.bool b, .slice a3 n3 c3, .slice a6 n6 c6]) b (digs x1) (digs x2)) := Lib.hid ⟨_, _, rfl, HI4.out.below (below_trans HB6.out hb7), HI6.out.below hb7⟩
                  have RC := Lib.hid (cells_later h7)
                  clear h7 hon7 hb7
                  have hy7 := Below.refl w7.heap.size w7
                  have x0 := RC.out 0 _ rfl _ hy7
                  have xx1 := RC.out 1 _ rfl _ hy7
                  have xx2 := RC.out 2 _ rfl _ hy7
                  have KR := Lib.hid (rright_w HF7.out (by have := HLX.out; have := HL6.out; omega))
                  rw [← HOK2.out] at KR
                  refine go_on ?_
                  go_wp2_with fail
                  refine KR.out.mono ?_
                  rintro en8 w8 ⟨rfl, hb8⟩
                  have HZ8 := Lib.hid (below_trans HZ7.out hb8)
                  clear x0 xx1 xx2 hy7
                  cases ok with
                  | true =>
                    have x0 := RC.out 0 _ rfl _ hb8
                    have xx1 := RC.out 1 _ rfl _ hb8
                    have xx2 := RC.out 2 _ rfl _ hb8
                    have HR8 : Hid (w8.heap[w.heap.size]? = some (.cells #[Value.bool false, Value.slice none 0 0, Value.slice none 0 0] 24 (0, 0))) := Lib.hid ((HZ8.out.block _ (lt_of_block HR1.out)).trans HR1.out)
                    have HW8 := Lib.hid (below_trans HB1.out HZ8.out)
                    have r0 := cells_later HR8.out 0 _ rfl _ (Below.refl _ _)
                    have r1 := cells_later HR8.out 1 _ rfl _ (Below.refl _ _)
                    have r2 := cells_later HR8.out 2 _ rfl _ (Below.refl _ _)
                    have f0 := frozen_of_row _ _ 0 _ _ HR8.out
                    have f1 := frozen_of_row _ _ 1 _ _ HR8.out
                    have f2 := frozen_of_row _ _ 2 _ _ HR8.out
                    have HRR := Lib.hid (right_rat (ws_digs x1) (ws_digs x2) HOK2.out.symm)
                    have HFV : Hid (FracV w8 (.agg #[.bool b, .slice a3 n3 c3, .slice a6 n6 c6]) q) := Lib.hid (by
                      have h9 := HF7.out.below hb8
                      have h8 := HRR.out
                      rw [← HQ.out] at h8
                      obtain ⟨u, d, he, hu, hd⟩ := h9
                      rw [h8.1] at hu
                      rw [h8.2.1] at hd
                      exact ⟨u, d, by rw [he, h8.2.2.1], hu, hd⟩)
                    have HF9 := Lib.hid (HFV.out.other HR8.out (frac3_only _ _ b (Value.slice a3 n3 c3) (Value.slice a6 n6 c6)))
                    clear hb8
                    go_wp2_with fail
                    exact bodyPost_ret (results_row_tmp rfl _ _ w.heap.size _ _ _ _ rfl (frac3_heap HR8.out) Try.underlying24 rfl ifrac) rfl ⟨by rw [if_pos rfl]; exact ⟨_, rfl, HF9.out⟩, below_only HW8.out (frac3_only _ _ _ _ _) (by omega)⟩
                  | false =>
                    have HF : Hid (false = false) := Lib.hid rfl
                    clear hb8
                    have HRe : Hid (w8.heap[w.heap.size]? = some (.cells #[Value.bool false, Value.slice none 0 0, Value.slice none 0 0] 24 (0, 0))) := Lib.hid ((HZ8.out.block _ (lt_of_block HR1.out)).trans HR1.out)
                    have HWe := Lib.hid (below_trans HB1.out HZ8.out)
                    have b0 := RB.out 0 _ rfl _ HZ8.out
                    have b1 := RB.out 1 _ rfl _ HZ8.out
                    have b2 := RB.out 2 _ rfl _ HZ8.out
                    have r0 := cells_later HRe.out 0 _ rfl _ (Below.refl _ _)
                    have r1 := cells_later HRe.out 1 _ rfl _ (Below.refl _ _)
                    have r2 := cells_later HRe.out 2 _ rfl _ (Below.refl _ _)
                    have f0 := frozen_of_row _ _ 0 _ _ HRe.out
                    have f1 := frozen_of_row _ _ 1 _ _ HRe.out
                    have f2 := frozen_of_row _ _ 2 _ _ HRe.out
                    go_wp2_with fail
                    exact bodyPost_ret (results_row_tmp rfl _ _ w.heap.size _ _ _ _ rfl (frac3_heap HRe.out) Try.underlying24 rfl ifrac) rfl ⟨by rw [if_neg (by simp)]; rfl, below_only HWe.out (frac3_only _ _ _ _ _) (by omega)⟩
end Go.Proofs.Ytebgkfcglmjokaa

/- The reference: decimal digits, fractions as texts. -/
namespace Go.Proofs.Ytebgkfcglmjokaa
open Go.RowKit

theorem strL_app (A B : List Nat) : strL A ++ strL B = strL (A ++ B) := by
  apply ByteArray.ext
  rw [ByteArray.data_append]
  simp [strL]
/-- The low n digits of a number, the most significant first. -/
def lowL (x n : Nat) : List Nat := (bw x n).reverse
theorem bw_add (x m n : Nat) : bw x (m + n) = bw x m ++ bw (x / 10 ^ m) n := by
  unfold bw
  rw [List.range_add, List.map_append, List.map_map]
  congr 1
  refine List.map_congr_left fun i _ => ?_
  simp only [Function.comp]
  rw [Nat.pow_add, Nat.div_div_eq_div_mul]
theorem lowL_add (x m n : Nat) : lowL x (m + n) = lowL (x / 10 ^ m) n ++ lowL x m := by
  unfold lowL; rw [bw_add, List.reverse_append]
theorem lowL_succ (x n : Nat) : lowL x (n + 1) = (48 + x / 10 ^ n % 10) :: lowL x n := by
  unfold lowL; rw [bw_succ, List.reverse_append]; rfl
theorem ndig_add {x : Nat} : ∀ {m : Nat}, x / 10 ^ m ≠ 0 → ndig x = m + ndig (x / 10 ^ m)
  | 0, _ => by simp
  | m + 1, h => by
    have h1 : x / 10 ^ m / 10 = x / 10 ^ (m + 1) := by rw [Nat.div_div_eq_div_mul, Nat.pow_succ]
    have h2 : x / 10 ^ m ≠ 0 := fun e => h (by rw [← h1, e])
    rw [ndig_add h2, ndig_pos h2, h1]; omega
theorem lowL_mod (y : Nat) : lowL (y % 1000000000) 9 = lowL y 9 := by
  unfold lowL bw
  congr 1
  refine List.map_congr_left fun i hi => ?_
  rw [List.mem_range] at hi
  have h := piece_digit (x := y) (y := y) (t := i) (j := 0) (by simp) hi
  rw [h, Nat.zero_add]
theorem ndig_nine {r : Nat} (h : r < 1000000000) : ndig r ≤ 9 := ndig_le.2 (by simpa using h)
theorem dig_step {x m cur k r0 : Nat} (hc : cur = x / 10 ^ m) (hc0 : cur ≠ 0) (hr : r0 = cur % 1000000000) (h : (cur / 1000000000 ≠ 0 ∧ k = 9) ∨ (cur / 1000000000 = 0 ∧ k = ndig r0)) :
    lowL r0 k ++ lowL x m = lowL x (m + k) ∧ cur / 1000000000 = x / 10 ^ (m + k) ∧ (cur / 1000000000 = 0 → m + k = ndig x) := by
  rw [lowL_add, ← hc, Nat.pow_add, ← Nat.div_div_eq_div_mul, ← hc]
  rcases h with ⟨h1, rfl⟩ | ⟨h1, h2⟩
  · exact ⟨by rw [hr, lowL_mod], by simp, fun h => absurd h h1⟩
  · have h3 : r0 = cur := by rw [hr]; exact Nat.mod_eq_of_lt (by omega)
    refine ⟨by rw [h3], ?_, fun _ => ?_⟩
    · rw [h1]
      have h4 : cur < 10 ^ k := by rw [h2, h3]; exact ndig_le.1 (Nat.le_refl _)
      exact (Nat.div_eq_of_lt h4).symm
    · rw [h2, h3, hc]
      exact (ndig_add (by rw [← hc]; exact hc0)).symm
theorem run_add_strL (A B : List Nat) (h : A.length + B.length ≤ 1000000000000) (w : World) : (Op.stringOp .add (strL A) (strL B)).run Try.prog w = .ok (.string (strL (A ++ B))) w := by
  have hA : (strL A).size = A.length := by unfold strL; simp [ByteArray.size]
  have hB : (strL B).size = B.length := by unfold strL; simp [ByteArray.size]
  rw [run_string_add_sum w (strL A) (strL B) (by omega), strL_app]
theorem ndig_len (x : Nat) : ndig x ≤ 10 * (digs x).length := by
  refine ndig_le.2 (Nat.lt_of_lt_of_le (lt_of_len_digs x) ?_)
  rw [Nat.pow_mul]
  exact Nat.pow_le_pow_left (by omega) _
theorem lowL_len (x n : Nat) : (lowL x n).length = n := by unfold lowL; simp [bw_len]
theorem run_byte_string {w : World} {d : Nat} (i : Int) (hi : i = (d : Int)) :
    (convert 86 9 (.slice (some ⟨w.heap.size, 0, none⟩) 1 1)).run Try.prog (w.alloc (Obj.cells #[Value.int .u8 i] 5)) = .ok (.string (strL [d])) (w.alloc (Obj.cells #[Value.int .u8 i] 5)) := by
  subst hi
  have h : OwnB (w.alloc (Obj.cells #[Value.int .u8 (d : Int)] 5)) w.heap.size (.slice (some ⟨w.heap.size, 0, none⟩) 1 1) [d] := World.ownsRow_lit w #[Value.int .u8 (d : Int)] 1 (Nat.le_refl _) (by unfold maxLen; omega) rfl
  exact run_bytes_string h (by simp)

set_option maxRecDepth 8000 in
set_option maxHeartbeats 4000000 in
theorem rdigits_w {w : World} {v : Value} {x : Nat} (hv : IsW w v (digs x)) :
    Calls Try.prog 90 #[v] w fun e w' => e = .returned (.string (strL (decS x))) ∧ Below w.heap.size w w' := by
  have HV := Lib.hid hv
  obtain ⟨a, n, c, rfl, hn⟩ := hv.form_len
  have hn9 : n ≤ 1073741824 := by have := hv.len; omega
  by_cases h0 : x = 0
  · have t0 : ((n : Int) == 0) = true := by rw [h0, digs_zero] at hn; simp at hn; simp; omega
    have HS : Hid (decS x = [48]) := Lib.hid (by rw [h0]; rfl)
    clear hv hn h0
    go_enter Try.func90, Try.ntmps90
    go_wp2_with fail
    go_ret
    exact ⟨by rw [HS.out]; rfl, Below.refl _ _⟩
  · have t0 : ((n : Int) == 0) = false := by rw [digs_pos h0] at hn; simp at hn; simp; omega
    have H0 := Lib.hid h0
    have HN := Lib.hid hn
    have HXL := Lib.hid (ndig_len x)
    clear hv hn h0
    go_enter Try.func90, Try.ntmps90
    go_wp2_with fail
    go_loopg [0, 3] x (fun y av ov wr => ∃ m : Nat, ov = .string (strL (lowL x m)) ∧ Hid (y = x / 10 ^ m) ∧ Hid (y = 0 → m = ndig x) ∧ m ≤ 20000000000 ∧ Hid (IsW wr av (digs y)) ∧ Hid (Below w.heap.size w wr))
    case atStart => exact ⟨0, rfl, Lib.hid (by simp), Lib.hid (fun h => absurd h H0.out), by omega, HV, Lib.hid (Below.refl _ _)⟩
    case round =>
      obtain ⟨m, rfl, hm, hm0, hmb, hI, hB⟩ := hrel
      obtain ⟨cur, rfl⟩ : ∃ c, c = gk := ⟨_, rfl⟩
      obtain ⟨wi, rfl⟩ : ∃ wi : World, wi = wr := ⟨_, rfl⟩
      obtain ⟨ai, ni, ci, rfl, hni⟩ := hI.out.form_len
      have hni9 : ni ≤ 1073741824 := by have := hI.out.len; omega
      by_cases hc0 : cur = 0
      · have t1 : decide (0 < ni) = false := by rw [hc0, digs_zero] at hni; simp at hni; simp; omega
        have HE : Hid (lowL x m = decS x) := Lib.hid (by rw [hm0.out hc0]; unfold decS; rw [if_neg H0.out]; rfl)
        clear hni hc0
        go_wp2_with fail
        go_ret
        exact ⟨by rw [HE.out]; rfl, hB.out⟩
      · have t1 : decide (0 < ni) = true := by rw [digs_pos hc0] at hni; simp at hni; simp; omega
        have HC0 : Hid (0 < cur) := Lib.hid (by omega)
        have K := Lib.hid (rhalves_w hI.out (by_ := 1000000000) (by omega) (by omega))
        obtain ⟨r0, hr0⟩ : ∃ r, r = cur % 1000000000 := ⟨_, rfl⟩
        have HR0 := Lib.hid hr0
        have hr0b : r0 < 1000000000 := by rw [hr0]; exact Nat.mod_lt _ (by omega)
        rw [← hr0] at K
        clear hni hc0 hr0
        go_wp2_with fail
        refine K.out.mono ?_
        rintro en w5 ⟨⟨q5, rfl, hq5, -⟩, hb5⟩
        obtain ⟨aq, nq, cq, rfl, hnq⟩ := hq5.form_len
        have hnq9 : nq ≤ 1073741824 := by have := hq5.len; omega
        have HQ := Lib.hid hq5
        have HB5 := Lib.hid (below_trans hB.out hb5)
        have HNQ : Hid ((nq = 0 → cur / 1000000000 = 0) ∧ (nq ≠ 0 → cur / 1000000000 ≠ 0)) := Lib.hid ⟨fun h => by
          rcases Nat.eq_zero_or_pos (cur / 1000000000) with h9 | h9
          · exact h9
          · rw [digs_pos (by omega)] at hnq; simp at hnq; omega, fun h e => by rw [e, digs_zero] at hnq; simp at hnq; omega⟩
        clear hq5 hb5 hnq
        go_wp2_with fail
        go_loopw [5, 6, 7] (fun rv pv kv wr => ∃ k rt : Nat, k ≤ 9 ∧ rv = .int .u32 rt ∧ pv = .string (strL (lowL r0 k)) ∧ kv = .int .i64 k ∧ rt < 1000000000 ∧ Hid (rt = r0 / 10 ^ k) ∧ Hid (nq = 0 → k ≤ ndig r0) ∧ Hid (Below w5.heap.size w5 wr)) (fun _ _ kv _ => 9 - (intOf kv).toNat)
        case atStart => exact ⟨0, r0, by omega, rfl, rfl, rfl, hr0b, Lib.hid (by simp), Lib.hid (fun _ => Nat.zero_le _), Lib.hid (Below.refl _ _)⟩
        case round =>
          obtain ⟨k, rt, hk, rfl, rfl, rfl, hrt, hrv, hkn, hbw⟩ := hrel
          obtain ⟨wo, rfl⟩ : ∃ wo : World, wo = wr := ⟨_, rfl⟩
          by_cases hk9 : k < 9
          · have t2 : decide ((k : Int) < 9) = true := by simp; omega
            by_cases hr : 0 < rt
            · have t3 : decide ((0 : Int) < (rt : Int)) = true := by simp; omega
              have hw8 : IntKind.u8.wrap (48 + (rt : Int) % 10) = 48 + (rt : Int) % 10 := by
                rw [IntKind.wrap_u8]; omega
              obtain ⟨d, hd⟩ : ∃ d, d = 48 + rt % 10 := ⟨_, rfl⟩
              have hcv := run_byte_string (w := wo) (d := d) (48 + (rt : Int) % 10) (by rw [hd]; omega)
              have hst : ∀ w', (Op.stringOp .add (strL [d]) (strL (lowL r0 k))).run Try.prog w' = .ok (.string (strL (lowL r0 (k + 1)))) w' := by
                intro w'
                rw [run_add_strL _ _ (by rw [lowL_len]; simp; omega) w', lowL_succ, hd, hrv.out]; rfl
              have HKN : Hid (nq = 0 → k + 1 ≤ ndig r0) := Lib.hid (fun h => by
                rcases Nat.lt_or_ge k (ndig r0) with h9 | h9
                · exact h9
                · exfalso
                  have h8 := ndig_le.1 h9
                  have h7 : rt = 0 := by rw [hrv.out]; exact Nat.div_eq_of_lt h8
                  omega)
              have HB6 : Hid (Below w5.heap.size w5 (wo.alloc (Obj.cells #[Value.int .u8 (48 + (rt : Int) % 10)] 5))) := Lib.hid (hbw.out.alloc hbw.out.size _)
              clear hd
              go_wp2_with fail
              go_roundw
              case rel => exact ⟨k + 1, rt / 10, by omega, by go_num, rfl, by go_num, by omega, Lib.hid (by rw [hrv.out, Nat.div_div_eq_div_mul, Nat.pow_succ]), HKN, HB6⟩
              case measure => simp [intOf]; omega
            · have t3 : decide ((0 : Int) < (rt : Int)) = false := by simp; omega
              by_cases hq : 0 < nq
              · have t4 : decide ((0 : Int) < (nq : Int)) = true := by simp; omega
                have hw8 : IntKind.u8.wrap (48 + (rt : Int) % 10) = 48 + (rt : Int) % 10 := by
                  rw [IntKind.wrap_u8]; omega
                obtain ⟨d, hd⟩ : ∃ d, d = 48 + rt % 10 := ⟨_, rfl⟩
                have hcv := run_byte_string (w := wo) (d := d) (48 + (rt : Int) % 10) (by rw [hd]; omega)
                have hst : ∀ w', (Op.stringOp .add (strL [d]) (strL (lowL r0 k))).run Try.prog w' = .ok (.string (strL (lowL r0 (k + 1)))) w' := by
                  intro w'
                  rw [run_add_strL _ _ (by rw [lowL_len]; simp; omega) w', lowL_succ, hd, hrv.out]; rfl
                have HKN : Hid (nq = 0 → k + 1 ≤ ndig r0) := Lib.hid (fun h => by
                  rcases Nat.lt_or_ge k (ndig r0) with h9 | h9
                  · exact h9
                  · exfalso
                    have h8 := ndig_le.1 h9
                    have h7 : rt = 0 := by rw [hrv.out]; exact Nat.div_eq_of_lt h8
                    omega)
                have HB6 : Hid (Below w5.heap.size w5 (wo.alloc (Obj.cells #[Value.int .u8 (48 + (rt : Int) % 10)] 5))) := Lib.hid (hbw.out.alloc hbw.out.size _)
                clear hd
                go_wp2_with fail
                go_roundw
                case rel => exact ⟨k + 1, rt / 10, by omega, by go_num, rfl, by go_num, by omega, Lib.hid (by rw [hrv.out, Nat.div_div_eq_div_mul, Nat.pow_succ]), HKN, HB6⟩
                case measure => simp [intOf]; omega
              · have t4 : decide ((0 : Int) < (nq : Int)) = false := by simp; omega
                have HK9 : Hid (cur / 1000000000 = 0 ∧ k = ndig r0) := Lib.hid (by
                  refine ⟨HNQ.out.1 (by omega), Nat.le_antisymm (hkn.out (by omega)) ?_⟩
                  refine ndig_le.2 ?_
                  have h9 := hrv.out
                  have hp : 0 < 10 ^ k := Nat.pow_pos (by omega)
                  rcases Nat.lt_or_ge r0 (10 ^ k) with h | h
                  · exact h
                  · have := Nat.div_pos h hp; omega)
                have HD := Lib.hid (dig_step hm.out (Nat.ne_of_gt HC0.out) HR0.out (k := k) (Or.inr HK9.out))
                have hst : ∀ w', (Op.stringOp .add (strL (lowL r0 k)) (strL (lowL x m))).run Try.prog w' = .ok (.string (strL (lowL x (m + k)))) w' := by
                  intro w'
                  rw [run_add_strL _ _ (by rw [lowL_len, lowL_len]; omega) w', HD.out.1]
                have HMK : Hid (m + k ≤ 20000000000) := Lib.hid (by
                  have h7 := HXL.out
                  have h8 := HN.out
                  rcases Nat.eq_zero_or_pos (cur / 1000000000) with h | h
                  · have := HD.out.2.2 h; omega
                  · have h9 := ndig_add (x := x) (m := m + k) (by rw [← HD.out.2.1]; omega); omega)
                have HW6 := Lib.hid (below_trans HB5.out hbw.out)
                have HQ6 := Lib.hid (HQ.out.below hbw.out)
                go_wp2_with fail
                go_roundg (cur / 1000000000)
                case measure => have := HC0.out; omega
                case rel => exact ⟨m + k, rfl, Lib.hid HD.out.2.1, Lib.hid HD.out.2.2, HMK.out, HQ6, HW6⟩
          · have t2 : decide ((k : Int) < 9) = false := by simp; omega
            have HK9 : Hid ((cur / 1000000000 ≠ 0 ∧ k = 9) ∨ (cur / 1000000000 = 0 ∧ k = ndig r0)) := Lib.hid (by
              by_cases hq : nq = 0
              · exact Or.inr ⟨HNQ.out.1 hq, Nat.le_antisymm (hkn.out hq) (by have := ndig_nine hr0b; omega)⟩
              · exact Or.inl ⟨HNQ.out.2 hq, by omega⟩)
            have HD := Lib.hid (dig_step hm.out (Nat.ne_of_gt HC0.out) HR0.out (k := k) (HK9.out))
            have hst : ∀ w', (Op.stringOp .add (strL (lowL r0 k)) (strL (lowL x m))).run Try.prog w' = .ok (.string (strL (lowL x (m + k)))) w' := by
              intro w'
              rw [run_add_strL _ _ (by rw [lowL_len, lowL_len]; omega) w', HD.out.1]
            have HMK : Hid (m + k ≤ 20000000000) := Lib.hid (by
              have h7 := HXL.out
              have h8 := HN.out
              rcases Nat.eq_zero_or_pos (cur / 1000000000) with h | h
              · have := HD.out.2.2 h; omega
              · have h9 := ndig_add (x := x) (m := m + k) (by rw [← HD.out.2.1]; omega); omega)
            have HW6 := Lib.hid (below_trans HB5.out hbw.out)
            have HQ6 := Lib.hid (HQ.out.below hbw.out)
            go_wp2_with fail
            go_roundg (cur / 1000000000)
            case measure => have := HC0.out; omega
            case rel => exact ⟨m + k, rfl, Lib.hid HD.out.2.1, Lib.hid HD.out.2.2, HMK.out, HQ6, HW6⟩
end Go.Proofs.Ytebgkfcglmjokaa

/- The reference: a fraction as text. -/
namespace Go.Proofs.Ytebgkfcglmjokaa
open Go.RowKit

set_option maxRecDepth 8000 in
set_option maxHeartbeats 4000000 in
theorem rprint_w {w : World} {v : Value} {b : Bool} {l m : List Nat} (hv : RawF w v b l m) (h1 : l.length + m.length ≤ 4096) :
    Calls Try.prog 42 #[v] w fun e w' => e = .returned (.string (strL (printL (fixR b l m)))) ∧ Below w.heap.size w w' := by
  have HV := Lib.hid hv
  obtain ⟨u, d, rfl, hu, hd⟩ := hv
  obtain ⟨ua, un, uc, hue⟩ := hu.form
  subst hue
  obtain ⟨da, dn, dc, hde⟩ := hd.form
  subst hde
  obtain ⟨w1, hw1⟩ : ∃ w1, w1 = w.alloc (Obj.cells #[Value.bool b, Value.slice ua un uc, Value.slice da dn dc] 24) := ⟨_, rfl⟩
  have HB1 : Hid (Below w.heap.size w w1) := Lib.hid (by rw [hw1]; exact (Below.refl _ _).alloc (Nat.le_refl _) _)
  have HX : Hid (w1.heap[w.heap.size]? = some (.cells #[Value.bool b, Value.slice ua un uc, Value.slice da dn dc] 24 (0, 0))) := Lib.hid (by rw [hw1]; exact heap_alloc_new w _)
  have HW1 := Lib.hid hw1.symm
  clear hw1
  have K1 := Lib.hid (rfix_w (HV.out.below HB1.out) h1)
  have HLP := Lib.hid (fix_len (b := b) hu.ws hd.ws)
  obtain ⟨P, hP⟩ : ∃ P, P = fixR b l m := ⟨_, rfl⟩
  rw [← hP] at K1 HLP ⊢
  have HDL : Hid ((decS P.num.natAbs).length ≤ 50000) := Lib.hid (dec_len (by have := HLP.out; unfold lenQ at this; omega))
  have HDD : Hid ((decS P.den).length ≤ 50000) := Lib.hid (dec_len (by have := HLP.out; unfold lenQ at this; omega))
  clear hP hu hd h1
  have RX := Lib.hid (cells_later HX.out)
  have hz1 := Below.refl w1.heap.size w1
  have x0 := RX.out 0 _ rfl _ hz1
  have x1 := RX.out 1 _ rfl _ hz1
  have x2 := RX.out 2 _ rfl _ hz1
  go_enter Try.func42, Try.ntmps42
  go_wp2_with fail
  rw [HW1.out]
  refine K1.out.mono ?_
  rintro en2 w2 ⟨⟨v2, rfl, f2⟩, hb2⟩
  obtain ⟨a2, n2, c2, i2, j2, k2, hq2⟩ := frac_form f2
  subst hq2
  have HX2 : Hid (w2.heap[w.heap.size]? = some (.cells #[Value.bool b, Value.slice ua un uc, Value.slice da dn dc] 24 (0, 0))) := Lib.hid ((hb2.block _ (lt_of_block HX.out)).trans HX.out)
  go_wp2_with ((with_reducible refine at_store ?_); refine wpList_store_var rfl _ _ _ rfl w.heap.size rfl _ rfl _ _ HX2.out ifrac rfl frac_one ?_; intro w3 h3 hon3; refine halt ?_)
  have HF3 := Lib.hid (f2.other HX2.out hon3)
  have HLN : Hid (IsW w3 (.slice a2 n2 c2) (digs P.num.natAbs) ∧ IsW w3 (.slice i2 j2 k2) (digs P.den)) := Lib.hid (by
    obtain ⟨u, d, he, hu, hd⟩ := HF3.out
    simp only [Value.agg.injEq, Array.mk.injEq, List.cons.injEq, and_true, true_and] at he
    obtain ⟨rfl, rfl⟩ := he
    exact ⟨hu, hd⟩)
  have HB3 := Lib.hid (below_only (below_trans HB1.out hb2) hon3 (Nat.le_refl _))
  have hz3 := Below.refl w3.heap.size w3
  obtain ⟨bp, hbp⟩ : ∃ bp, bp = decide (P.num < 0) := ⟨_, rfl⟩
  rw [← hbp] at h3
  clear x0 x1 x2 f2 hb2 hon3 hz1 RX
  have RX := Lib.hid (cells_later h3)
  have x0 := RX.out 0 _ rfl _ hz3
  have x1 := RX.out 1 _ rfl _ hz3
  have x2 := RX.out 2 _ rfl _ hz3
  have HBP := Lib.hid hbp
  clear h3 hbp
  refine go_on ?_
  go_wp2_with fail
  refine (rdigits_w HLN.out.1).mono ?_
  rintro en4 w4 ⟨rfl, hb4⟩
  clear x0 x1 x2
  have x0 := RX.out 0 _ rfl _ hb4
  have x1 := RX.out 1 _ rfl _ hb4
  have x2 := RX.out 2 _ rfl _ hb4
  have HB4 := Lib.hid hb4
  have HD4 := Lib.hid (HLN.out.2.below hb4)
  clear hb4 hz3
  obtain ⟨vb, vo, vn, vc, vd, hve, hvn, hvn0, hvc, hvt⟩ := word_test HD4.out P.den_pos
  simp only [Value.slice.injEq] at hve
  obtain ⟨rfl, rfl, rfl⟩ := hve
  have HVC := Lib.hid hvc
  have HVT := Lib.hid hvt
  have hvn9 : j2 ≤ 1073741824 := by have := HD4.out.len; omega
  obtain ⟨tb, htb⟩ : ∃ t, t = !oneB P.den := ⟨_, rfl⟩
  have HTB := Lib.hid htb
  clear hvn hvc hvt htb
  have hs1 : ∀ w', (Op.stringOp .add ⟨#[45]⟩ (strL (decS P.num.natAbs))).run Try.prog w' = .ok (.string (strL (45 :: decS P.num.natAbs))) w' := fun w' => run_add_strL [45] _ (by have := HDL.out; simp; omega) w'
  obtain ⟨H, hH⟩ : ∃ H, H = headL bp ++ decS P.num.natAbs := ⟨_, rfl⟩
  have HH := Lib.hid hH
  have HHL : Hid (H.length ≤ 50001) := Lib.hid (by
    rw [hH, List.length_append]
    have h9 : (headL bp).length ≤ 1 := by cases bp <;> decide
    have := HDL.out
    omega)
  clear hH
  go_upto_if 10 with fail
  go_cut [3] (fun sv wr => sv = .string (strL H) ∧ w4 = wr)
  case first =>
    cases bp with
    | true =>
      have hs2 : strL (45 :: decS P.num.natAbs) = strL H := by rw [HH.out]; rfl
      go_wp2_with fail
      go_meet
      exact ⟨by first | rfl | (rw [HH.out]; rfl) | rw [HH.out], rfl⟩
    | false =>
      go_wp2_with fail
      go_meet
      exact ⟨by first | rfl | (rw [HH.out]; rfl) | rw [HH.out], rfl⟩
  case rest =>
    obtain ⟨rfl, rfl⟩ := hcut
    clear hs1
    go_upto_region 5 with fail
    go_cut [23] (fun c wr => c = .bool tb ∧ w4 = wr)
    case first =>
      have g0 := HVC.out _ (Below.refl _ _)
      rcases HVT.out with ⟨h1, h2⟩ | ⟨h1, h2, h3⟩ | ⟨h1, h2, h3⟩
      · have t1 : decide ((1 : Int) < (j2 : Int)) = true := by simp; omega
        have HF : Hid (tb = true) := Lib.hid (by rw [HTB.out, h2]; rfl)
        clear h1 h2
        go_wp2_with fail
        go_meet
        exact ⟨by rw [HF.out], rfl⟩
      · have t1 : decide ((1 : Int) < (j2 : Int)) = false := by simp; omega
        have t2 : ((vd : Int) == 1) = false := by simp; omega
        have t3 : ((vd : Int) != 1) = true := by simp; omega
        have HF : Hid (tb = true) := Lib.hid (by rw [HTB.out, h3]; rfl)
        clear h1 h2 h3
        go_wp2_with fail
        go_meet
        exact ⟨by rw [HF.out], rfl⟩
      · have t1 : decide ((1 : Int) < (j2 : Int)) = false := by simp; omega
        have t2 : ((vd : Int) == 1) = true := by simp; omega
        have t3 : ((vd : Int) != 1) = false := by simp; omega
        have HF : Hid (tb = false) := Lib.hid (by rw [HTB.out, h3]; rfl)
        clear h1 h2 h3
        go_wp2_with fail
        go_meet
        exact ⟨by rw [HF.out], rfl⟩
    case rest =>
      obtain ⟨rfl, rfl⟩ := hcut
      cases tb with
      | false =>
        have HPL : Hid (printL P = H) := Lib.hid (by
          have h9 : P.den = 1 := by have := HTB.out; simpa [oneB] using this
          unfold printL tailL
          rw [if_pos h9, HH.out, HBP.out, List.append_nil])
        go_wp2_with fail
        go_ret
        exact ⟨by rw [HPL.out]; rfl, below_trans HB3.out HB4.out⟩
      | true =>
        have HPL : Hid (printL P = (H ++ [47]) ++ decS P.den) := Lib.hid (by
          have h9 : P.den ≠ 1 := by have := HTB.out; simpa [oneB] using this
          unfold printL tailL
          rw [if_neg h9, HH.out, HBP.out]; simp)
        have hs3 : ∀ w', (Op.stringOp .add (strL H) ⟨#[47]⟩).run Try.prog w' = .ok (.string (strL (H ++ [47]))) w' := fun w' => run_add_strL H [47] (by have := HHL.out; simp; omega) w'
        go_wp2_with fail
        refine (rdigits_w HD4.out).mono ?_
        rintro en5 w5 ⟨rfl, hb5⟩
        have hs4 : ∀ w', (Op.stringOp .add (strL (H ++ [47])) (strL (decS P.den))).run Try.prog w' = .ok (.string (strL ((H ++ [47]) ++ decS P.den))) w' := fun w' => run_add_strL _ _ (by have := HHL.out; have := HDD.out; simp; omega) w'
        go_wp2_with fail
        go_ret
        exact ⟨by rw [HPL.out]; simp, below_trans HB3.out (below_trans HB4.out hb5)⟩
end Go.Proofs.Ytebgkfcglmjokaa

/- Texts of fractions: what is written is read again. -/
namespace Go.Proofs.Ytebgkfcglmjokaa
open Go.RowKit

theorem print_sgn (q : Rat) : sgnB (printL q) = decide (q.num < 0) ∧ restL (printL q) = decS q.num.natAbs ++ tailL q := by
  obtain ⟨c, A, hc, hc45⟩ := dec_cons q.num.natAbs
  unfold printL
  obtain ⟨bq, hbq⟩ : ∃ bq, bq = decide (q.num < 0) := ⟨_, rfl⟩
  rw [← hbq]
  cases bq
  · have h1 : sgnB (headL false ++ decS q.num.natAbs ++ tailL q) = false := by
      rw [hc]; simp [sgnB, headL, hc45]
    refine ⟨h1, ?_⟩
    unfold restL
    rw [h1]; simp [headL]
  · have h1 : sgnB (headL true ++ decS q.num.natAbs ++ tailL q) = true := by simp [sgnB, headL]
    refine ⟨h1, ?_⟩
    unfold restL
    rw [h1]; simp [headL]
theorem parse_print {q : Rat} (hl : lenQ q ≤ 4096) : parseQ (printL q) = q := by
  obtain ⟨h1, h2⟩ := print_sgn q
  have h3 : topL (printL q) = decS q.num.natAbs ∧ decV (botL (restL (printL q))) = q.den := by
    unfold topL
    rw [h2]
    unfold tailL
    by_cases hd : q.den = 1
    · rw [if_pos hd, List.append_nil, slash_none (decS_dig _), List.take_length]
      refine ⟨rfl, ?_⟩
      unfold botL
      rw [slash_none (decS_dig _), if_neg (by omega), hd]; rfl
    · rw [if_neg hd, slash_of (decS_dig _)]
      refine ⟨by rw [List.take_left'] ; rfl, ?_⟩
      unfold botL
      rw [slash_of (decS_dig _), if_pos (by simp), List.drop_append]
      have e1 : (decS q.num.natAbs).length + 1 - (decS q.num.natAbs).length = 1 := by omega
      rw [e1, List.drop_of_length_le (by omega)]
      show decV (decS q.den) = _
      rw [decV_decS]
  unfold parseQ
  rw [h1, h3.1, h3.2, decV_decS]
  exact fix_digs hl
theorem parse_text {L : List Nat} (h : parseOK L = true) : printL (parseQ L) = L := by
  unfold parseOK fracOK at h
  simp only [Bool.and_eq_true, decide_eq_true_eq] at h
  have h9 := h.2
  rw [sgn_split] at h9
  exact h9
theorem parse_len (L : List Nat) : lenQ (parseQ L) ≤ 4096 := fix_len (ws_digs _) (ws_digs _)
theorem bytes_of (s : ByteArray) : ∃ L, Bytes L ∧ s = strL L ∧ L.length = s.size := by
  refine ⟨s.data.toList.map (fun c => c.toNat), ?_, ?_, by rw [List.length_map, Array.length_toList]; rfl⟩
  · intro c hc
    obtain ⟨d, _, rfl⟩ := List.mem_map.1 hc
    exact d.toNat_lt
  · apply ByteArray.ext
    unfold strL
    simp only [List.map_map]
    have : (UInt8.ofNat ∘ fun c : UInt8 => c.toNat) = id := by funext c; exact UInt8.ofNat_toNat
    rw [this, List.map_id]
theorem print_len {q : Rat} {n : Nat} (h : lenQ q ≤ n) : (printL q).length ≤ 10 * n + 10 := by
  have hd : ∀ x : Nat, (decS x).length ≤ 10 * (digs x).length + 1 := fun x => by
    unfold decS; split
    · simp
    · rw [List.length_reverse, bw_len]
      have h9 : ndig x ≤ 10 * (digs x).length := by
        refine ndig_le.2 (Nat.lt_of_lt_of_le (lt_of_len_digs x) ?_)
        rw [Nat.pow_mul]
        exact Nat.pow_le_pow_left (by omega) _
      omega
  have h1 := hd q.num.natAbs
  have h2 := hd q.den
  unfold lenQ at h
  have h3 : (headL (decide (q.num < 0))).length ≤ 1 := by unfold headL; split <;> simp
  have h4 : (tailL q).length ≤ (decS q.den).length + 1 := by unfold tailL; split <;> simp
  unfold printL
  rw [List.length_append, List.length_append]
  omega
end Go.Proofs.Ytebgkfcglmjokaa
