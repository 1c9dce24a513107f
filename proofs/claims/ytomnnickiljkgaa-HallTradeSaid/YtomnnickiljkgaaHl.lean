/- Which pair blocks a matching? -/
import Derived.Test.YtomnnickiljkgaaHk
import Derived.Deep.LoopGhost
namespace Go.Proofs.Ytomnnickiljkgaa
open Go.RowKit
attribute [local go_sem ↓] Go.wp_at_zero Go.wp_at_succ

def nthI (l : List Int) (i : Nat) : Int := (l[i]?).getD (-1)
theorem nthI_some {l : List Int} {i : Nat} {z : Int} (h : l[i]? = some z) : nthI l i = z := by unfold nthI; rw [h]; rfl
theorem nthI_get {l : List Int} {i : Nat} (h : i < l.length) : l[i]? = some (nthI l i) := by
  unfold nthI
  rw [List.getElem?_eq_getElem h]; rfl
def blocksB (P R : List (List Int)) (l : List Int) (p r : Nat) : Bool := decide (scoreQ (nthL P p) (r : Int) < scoreQ (nthL P p) (nthI l p)) && decide (scoreQ (nthL R r) (p : Int) < scoreQ (nthL R r) (posQ l (r : Int)))
def unwB (P R : List (List Int)) (l : List Int) (p : Nat) : Bool := decide (nthI l p ≠ -1) && (!decide (scoreQ (nthL P p) (nthI l p) < (nthL P p).length) || !decide (scoreQ (atL R (nthI l p)) (p : Int) < (atL R (nthI l p)).length))
theorem ahead_none {l : List Int} {x : Int} (hx : x ≠ -1) (hl : (-1 : Int) ∉ l) : decide (scoreQ l (-1) < scoreQ l x) = !decide (scoreQ l x < l.length) := by
  rw [score_none hl]
  by_cases h : x ∈ l
  · have := score_lt.2 h
    simp [this]; omega
  · have : scoreQ l x = l.length + 1 := by unfold scoreQ; rw [if_neg h, if_neg hx]
    rw [this]; simp
/-- Nothing is at odds at proposer p. -/
def ClearB (P R : List (List Int)) (l : List Int) (p : Nat) : Prop := unwB P R l p = false ∧ ∀ r, r < R.length → blocksB P R l p r = false
def BlockR (P R : List (List Int)) (l : List Int) (x y : Int) : Prop :=
  (x = -1 ∧ y = -1 ∧ ∀ p, p < P.length → ClearB P R l p) ∨
  ∃ p : Nat, p < P.length ∧ (∀ q, q < p → ClearB P R l q) ∧ x = (p : Int) ∧
    ((unwB P R l p = true ∧ y = -1) ∨ (unwB P R l p = false ∧ ∃ r : Nat, r < R.length ∧ (∀ s, s < r → blocksB P R l p s = false) ∧ blocksB P R l p r = true ∧ y = (r : Int)))
theorem BlockR.at {P R : List (List Int)} {l : List Int} {x y : Int} (h : BlockR P R l x y) (hx : x ≠ -1) : ∃ p : Nat, x = (p : Int) ∧ p < P.length ∧ ¬ ClearB P R l p ∧ (∀ q, q < p → ClearB P R l q) := by
  rcases h with ⟨e, _⟩ | ⟨p, h1, h2, h3, h4⟩
  · exact absurd e hx
  · refine ⟨p, h3, h1, fun hc => ?_, h2⟩
    rcases h4 with ⟨h5, _⟩ | ⟨_, r, h6, _, h7, _⟩
    · rw [hc.1] at h5; cases h5
    · rw [hc.2 r h6] at h7; cases h7
theorem BlockR.one {P R : List (List Int)} {l : List Int} {x y x' y' : Int} (h : BlockR P R l x y) (h' : BlockR P R l x' y') : x = x' ∧ y = y' := by
  rcases h with ⟨e, e2, hc⟩ | ⟨p, h1, h2, h3, h4⟩
  · rcases h' with ⟨e', e2', _⟩ | ⟨p', h1', h2', h3', h4'⟩
    · exact ⟨by rw [e, e'], by rw [e2, e2']⟩
    · exfalso
      rcases h4' with ⟨h5, _⟩ | ⟨_, r, h6, _, h7, _⟩
      · rw [(hc p' h1').1] at h5; cases h5
      · rw [(hc p' h1').2 r h6] at h7; cases h7
  · rcases h' with ⟨e', e2', hc⟩ | ⟨p', h1', h2', h3', h4'⟩
    · exfalso
      rcases h4 with ⟨h5, _⟩ | ⟨_, r, h6, _, h7, _⟩
      · rw [(hc p h1).1] at h5; cases h5
      · rw [(hc p h1).2 r h6] at h7; cases h7
    · have hpp : p = p' := by
        rcases Nat.lt_trichotomy p p' with hlt | he | hlt
        · exfalso
          have hc := h2' p hlt
          rcases h4 with ⟨h5, _⟩ | ⟨_, r, h6, _, h7, _⟩
          · rw [hc.1] at h5; cases h5
          · rw [hc.2 r h6] at h7; cases h7
        · exact he
        · exfalso
          have hc := h2 p' hlt
          rcases h4' with ⟨h5, _⟩ | ⟨_, r, h6, _, h7, _⟩
          · rw [hc.1] at h5; cases h5
          · rw [hc.2 r h6] at h7; cases h7
      subst hpp
      refine ⟨by rw [h3, h3'], ?_⟩
      rcases h4 with ⟨h5, e⟩ | ⟨h5, r, h6, h7, h8, e⟩
      · rcases h4' with ⟨_, e'⟩ | ⟨h5', _⟩
        · rw [e, e']
        · rw [h5] at h5'; cases h5'
      · rcases h4' with ⟨h5', e'⟩ | ⟨_, r', h6', h7', h8', e'⟩
        · rw [h5] at h5'; cases h5'
        · rcases Nat.lt_trichotomy r r' with hlt | he | hlt
          · rw [h7' r hlt] at h8; cases h8
          · rw [e, e', he]
          · rw [h7 r' hlt] at h8'; cases h8'

set_option maxRecDepth 8000 in
set_option maxHeartbeats 4000000 in
theorem rblocks_w {w : World} {np ca nr cb m c p r : Nat} {a b d : Option Addr} {P R : List (List Int)} {l : List Int} (h : RowsF w a P) (hs : SmallL P) (hm : np = P.length) (h2 : RowsF w b R) (hs2 : SmallL R) (hm2 : nr = R.length) (hl : IntsF w d l) (hml : m = l.length) (hm12 : m ≤ 12) (hpm : p < m) (hp : p < np) (hr : r < nr) :
    Calls Try.prog 30 #[.slice a np ca, .slice b nr cb, .slice d m c, .int .i64 (p : Nat), .int .i64 (r : Nat)] w fun e w' => e = .returned (.bool (blocksB P R l p r)) ∧ Below w.heap.size w w' := by
  obtain ⟨B, off, a', c', ha, hI, -, -, hc⟩ := h.at (i := p) (by omega)
  obtain ⟨B2, off2, a2, c2, hb, hI2, -, -, hc2⟩ := h2.at (i := r) (by omega)
  obtain ⟨z, B3, off3, hz, hd, hzb, hc3⟩ := hl.at (i := p) (by omega)
  subst ha hb hd
  have e1 := hc w (Below.refl _ _)
  have e2 := hc2 w (Below.refl _ _)
  have e3 := hc3 w (Below.refl _ _)
  have hl1 := hs.nth p
  have hl2 := hs2.nth r
  have K1 : Hid (∀ n, Calls Try.prog 16 #[.slice a' (nthL P p).length c', .int .i64 (r : Nat), .int .i64 z] (w.drewN n) fun e w' => e = .returned (.bool (decide (scoreQ (nthL P p) (r : Int) < scoreQ (nthL P p) z))) ∧ w.drewN n = w') := Lib.hid (fun n => rahead_w (hI.drewN n) rfl (by omega))
  have K2 : Hid (∀ n, Calls Try.prog 50 #[.slice (some ⟨B3, off3, none⟩) m c, .int .i64 (r : Nat)] (w.drewN n) fun e w' => e = .returned (.int .i64 (posQ l (r : Int))) ∧ w.drewN n = w') := Lib.hid (fun n => holder_w (hl.drewN n) hml (by omega))
  have K3 : Hid (∀ n, Calls Try.prog 16 #[.slice a2 (nthL R r).length c2, .int .i64 (p : Nat), .int .i64 (posQ l (r : Int))] (w.drewN n) fun e w' => e = .returned (.bool (decide (scoreQ (nthL R r) (p : Int) < scoreQ (nthL R r) (posQ l (r : Int))))) ∧ w.drewN n = w') := Lib.hid (fun n => rahead_w (hI2.drewN n) rfl (by omega))
  obtain ⟨x1, hx1⟩ : ∃ x, x = decide (scoreQ (nthL P p) (r : Int) < scoreQ (nthL P p) z) := ⟨_, rfl⟩
  obtain ⟨x2, hx2⟩ : ∃ x, x = decide (scoreQ (nthL R r) (p : Int) < scoreQ (nthL R r) (posQ l (r : Int))) := ⟨_, rfl⟩
  obtain ⟨ho, hho⟩ : ∃ x, x = posQ l (r : Int) := ⟨_, rfl⟩
  obtain ⟨l1, hl1'⟩ : ∃ x, x = (nthL P p).length := ⟨_, rfl⟩
  obtain ⟨l2, hl2'⟩ : ∃ x, x = (nthL R r).length := ⟨_, rfl⟩
  have HE : Hid (blocksB P R l p r = (x1 && x2)) := Lib.hid (by unfold blocksB; rw [nthI_some hz, hx1, hx2])
  have HX1 : Hid (z = (r : Int) → x1 = false) := Lib.hid (fun e => by rw [hx1, e]; simp)
  rw [← hx1, ← hl1'] at K1
  rw [← hho] at K2
  rw [← hx2, ← hho, ← hl2'] at K3
  rw [← hl1'] at e1
  rw [← hl2'] at e2
  obtain ⟨bb, hbb⟩ : ∃ x, x = blocksB P R l p r := ⟨_, rfl⟩
  rw [← hbb] at HE ⊢
  clear h hs hm h2 hs2 hm2 hl hml hI hI2 hc hc2 hc3 hz hzb hl1 hl2 hx1 hx2 hho hl1' hl2' hbb
  by_cases hzr : z = (r : Int)
  · have HB : Hid (bb = false) := Lib.hid (by rw [HE.out, HX1.out hzr, Bool.false_and])
    subst hzr
    go_enter Try.func30, Try.ntmps30
    go_wp2_with fail
    go_quiet (fail)
    have HZ9 : Hid (Below w.heap.size w (w.drewN nq)) := Lib.hid (below_drewN (Below.refl _ _) _)
    go_wp2_with fail
    go_ret
    exact ⟨by rw [HB.out]; rfl, HZ9.out⟩
  have t1 : (z == (r : Int)) = false := by simpa using hzr
  have t2 : (z != (r : Int)) = true := by simpa using hzr
  cases x1 with
  | false =>
    have HB : Hid (bb = false) := Lib.hid (by rw [HE.out, Bool.false_and])
    go_enter Try.func30, Try.ntmps30
    go_wp2_with fail
    go_quiet ((go_at_call 16; exact quiet_left (K1.out _)))
    have HZ9 : Hid (Below w.heap.size w (w.drewN nq)) := Lib.hid (below_drewN (Below.refl _ _) _)
    go_wp2_with fail
    go_ret
    exact ⟨by rw [HB.out]; rfl, HZ9.out⟩
  | true =>
    have HB : Hid (bb = x2) := Lib.hid (by rw [HE.out, Bool.true_and])
    go_enter Try.func30, Try.ntmps30
    go_wp2_with fail
    go_quiet (first | (go_at_call 50; exact quiet_left (K2.out _)) | (go_at_call_of 16 (Value.slice a' l1 c'); exact quiet_left (K1.out _)) | (go_at_call_of 16 (Value.slice a2 l2 c2); exact quiet_left (K3.out _)))
    have HZ9 : Hid (Below w.heap.size w (w.drewN nq)) := Lib.hid (below_drewN (Below.refl _ _) _)
    go_wp2_with fail
    go_ret
    exact ⟨by rw [HB.out]; rfl, HZ9.out⟩
/-- What is wrong with two sides and a matching. -/
def errB (P R : List (List Int)) (l : List Int) : Int := if errS P R = 0 then (if matQ P.length R.length l = true then 0 else 70) else errS P R
def BlkA (P R : List (List Int)) (l : List Int) (x y : Int) : Prop := (errB P R l = 0 → BlockR P R l x y) ∧ (errB P R l ≠ 0 → x = 0 ∧ y = 0)
theorem BlkA.one {P R : List (List Int)} {l : List Int} {x y x' y' : Int} (h : BlkA P R l x y) (h' : BlkA P R l x' y') : x = x' ∧ y = y' := by
  by_cases he : errB P R l = 0
  · exact (h.1 he).one (h'.1 he)
  · obtain ⟨e1, e2⟩ := h.2 he
    obtain ⟨e3, e4⟩ := h'.2 he
    exact ⟨by rw [e1, e3], by rw [e2, e4]⟩
theorem BlkA.bad {P R : List (List Int)} {l : List Int} (h : errB P R l ≠ 0) : BlkA P R l 0 0 := ⟨fun e => absurd e h, fun _ => ⟨rfl, rfl⟩⟩
theorem errB_ok {P R : List (List Int)} {l : List Int} (h : errB P R l = 0) : errS P R = 0 ∧ matQ P.length R.length l = true := by
  unfold errB at h
  split at h
  · rename_i h0
    refine ⟨h0, ?_⟩
    split at h
    · assumption
    · cases h
  · rename_i h0; exact absurd h h0
theorem matQ_parts {np nr : Nat} {l : List Int} (h : matQ np nr l = true) : l.length = np ∧ (∀ z ∈ l, z = -1 ∨ (0 ≤ z ∧ z < nr)) ∧ ∀ i j : Nat, ∀ z : Int, l[i]? = some z → l[j]? = some z → z ≠ -1 → i = j := by
  unfold matQ at h
  simp only [Bool.and_eq_true, decide_eq_true_eq] at h
  obtain ⟨h1, h2⟩ := h
  have h3 := listed_iff.1 h2
  refine ⟨h1, fun z hz => ?_, fun i j z hi hj hne => ?_⟩
  · by_cases e : z = -1
    · exact Or.inl e
    · exact Or.inr (h3.2 z (mem_someL.2 ⟨hz, e⟩))
  · have h4 := h3.1
    unfold List.Nodup someL at h4
    rw [List.pairwise_filter, List.pairwise_iff_getElem] at h4
    obtain ⟨hi1, hi2⟩ := List.getElem?_eq_some_iff.1 hi
    obtain ⟨hj1, hj2⟩ := List.getElem?_eq_some_iff.1 hj
    rcases Nat.lt_trichotomy i j with hlt | e | hlt
    · exact absurd (hi2.trans hj2.symm) (h4 i j hi1 hj1 hlt (by simpa [hi2] using hne) (by simpa [hj2] using hne))
    · exact e
    · exact absurd (hj2.trans hi2.symm) (h4 j i hj1 hi1 hlt (by simpa [hj2] using hne) (by simpa [hi2] using hne))

set_option maxRecDepth 8000 in
set_option maxHeartbeats 8000000 in
theorem rblock_w {w : World} {np ca nr cb m c : Nat} {a b d : Option Addr} {P R : List (List Int)} {l : List Int} (h : RowsF w a P) (hs : SmallL P) (hm : np = P.length) (h2 : RowsF w b R) (hs2 : SmallL R) (hm2 : nr = R.length) (hl : IntsF w d l) (hml : m = l.length) (hm12 : m ≤ 12) :
    Calls Try.prog 11 #[.slice a np ca, .slice b nr cb, .slice d m c] w fun e w' => (∃ x y, e = .returned (.tuple #[.int .i64 x, .int .i64 y, .int .i64 (errB P R l)]) ∧ BlkA P R l x y) ∧ Below w.heap.size w w' := by
  have K1 := Lib.hid (rsides_w (c := ca) (c2 := cb) h hs hm h2 hs2 hm2)
  have K2 := Lib.hid (rmatching_w (np := np) (nr := nr) (c := c) hl hml hm12)
  obtain ⟨x, hx⟩ : ∃ x, x = errS P R := ⟨_, rfl⟩
  obtain ⟨mb, hmb⟩ : ∃ x, x = matQ np nr l := ⟨_, rfl⟩
  have HX := Lib.hid hx
  have HMB := Lib.hid hmb
  have HE : Hid (errB P R l = if x = 0 then (if mb = true then 0 else 70) else x) := Lib.hid (by unfold errB; rw [← hx, ← hm, ← hm2, ← hmb])
  have HP := Lib.hid h
  have HR := Lib.hid h2
  have HL := Lib.hid hl
  have HSP := Lib.hid hs
  have HSR := Lib.hid hs2
  have HM := Lib.hid hm
  have HM2 := Lib.hid hm2
  have HML := Lib.hid hml
  obtain ⟨eb, heb⟩ : ∃ x, x = errB P R l := ⟨_, rfl⟩
  have HEB := Lib.hid heb
  rw [← hx] at K1
  rw [← hmb] at K2
  rw [← heb] at HE ⊢
  clear h hs hm h2 hs2 hm2 hl hml hx hmb heb
  go_enter Try.func11, Try.ntmps11
  go_wp2_with fail
  refine K1.out.mono ?_
  rintro en2 w2 ⟨rfl, rfl⟩
  by_cases hx0 : x = 0
  rotate_left
  · have u1 : (x == 0) = false := by simpa using hx0
    have u2 : (x != 0) = true := by simpa using hx0
    have HE9 : Hid (eb = x) := Lib.hid (by rw [HE.out, if_neg hx0])
    have HX0 := Lib.hid hx0
    go_wp2_with fail
    go_ret3
    exact ⟨⟨0, 0, by rw [HE9.out]; rfl, BlkA.bad (by rw [← HEB.out, HE9.out]; exact HX0.out)⟩, Below.refl _ _⟩
  subst hx0
  go_wp2_with fail
  refine K2.out.mono ?_
  rintro en3 w3 ⟨rfl, hb3⟩
  have HZ3 := Lib.hid hb3
  clear hb3
  cases mb with
  | false =>
    have HE9 : Hid (eb = 70) := Lib.hid (by rw [HE.out]; rfl)
    go_wp2_with fail
    go_ret3
    exact ⟨⟨0, 0, by rw [HE9.out]; rfl, BlkA.bad (by rw [← HEB.out, HE9.out]; decide)⟩, HZ3.out⟩
  | true =>
  have HE9 : Hid (eb = 0) := Lib.hid (by rw [HE.out]; rfl)
  have hok := errS_ok (P := P) (R := R) HX.out.symm
  have hmp := matQ_parts HMB.out.symm
  have HMP := Lib.hid hmp
  have HSD := Lib.hid hok.1
  have hnp : np ≤ 8 := by have := HM.out; omega
  have hnr : nr ≤ 8 := by have := HM2.out; omega
  have hmn : m = np := by rw [HML.out]; exact hmp.1
  clear hok hmp HMB HX K1 K2 HE
  subst hmn
  have KBL : Hid (∀ (w' : World) (i k : Nat), Below w.heap.size w w' → i < m → k < nr → Calls Try.prog 30 #[.slice a m ca, .slice b nr cb, .slice d m c, .int .i64 (i : Nat), .int .i64 (k : Nat)] w' fun e w'' => e = .returned (.bool (blocksB P R l i k)) ∧ Below w'.heap.size w' w'') := Lib.hid (fun w' i k hb hi hk => rblocks_w (HP.out.below hb) HSP.out HM.out (HR.out.below hb) HSR.out HM2.out (HL.out.below hb) HML.out hm12 hi hi hk)
  go_wp2_with fail
  go_loopw [10] (fun iv wr => ∃ i : Nat, i ≤ m ∧ iv = .int .i64 i ∧ Hid (Below w.heap.size w wr) ∧ Hid (∀ q, q < i → ClearB P R l q)) (fun iv _ => m - (intOf iv).toNat)
  case atStart => exact ⟨0, Nat.zero_le _, rfl, HZ3, Lib.hid (fun q hq => absurd hq (Nat.not_lt_zero _))⟩
  case round =>
    obtain ⟨i, hi, rfl, hZ, hcl⟩ := hrel
    obtain ⟨wo, rfl⟩ : ∃ wo : World, wo = wr := ⟨_, rfl⟩
    clear HZ3
    by_cases hin : i < m
    rotate_left
    · have t0 : decide ((i : Int) < (m : Int)) = false := by simp; omega
      have HBR : Hid (BlkA P R l (-1) (-1)) := Lib.hid ⟨fun _ => Or.inl ⟨rfl, rfl, fun p hp => hcl.out p (by have := HM.out; omega)⟩, fun e => absurd (by rw [← HEB.out, HE9.out]) e⟩
      go_wp2_with fail
      go_ret3
      exact ⟨⟨_, _, by rw [HE9.out]; rfl, HBR.out⟩, hZ.out⟩
    have t0 : decide ((i : Int) < (m : Int)) = true := by simp; omega
    obtain ⟨z, B3, off3, hz, hd, hzb, hc3⟩ := HL.out.at (i := i) (by have := HML.out; omega)
    subst hd
    have e1 := hc3 wo hZ.out
    have HZI9 : Hid (nthI l i = z) := Lib.hid (nthI_some hz)
    have hzr := HMP.out.2.1 z (List.mem_of_getElem? hz)
    clear hz hzb hc3
    by_cases hz1 : z = -1
    · subst hz1
      have t1 : decide ((-1 : Int) ≥ 0) = false := by rfl
      have HUN : Hid (unwB P R l i = false) := Lib.hid (by unfold unwB; rw [HZI9.out]; rfl)
      have HZI := hZ
      clear hzr hZ
      go_wp2_with fail
      go_loopw [12] (fun iv wr => ∃ k : Nat, k ≤ nr ∧ iv = .int .i64 k ∧ Hid (Below w.heap.size w wr) ∧ Hid (∀ s, s < k → blocksB P R l i s = false)) (fun iv _ => nr - (intOf iv).toNat)
      case atStart => exact ⟨0, Nat.zero_le _, rfl, HZI, Lib.hid (fun s hs => absurd hs (Nat.not_lt_zero _))⟩
      case round =>
        obtain ⟨k, hk, rfl, hZ, hnb⟩ := hrel
        obtain ⟨wo, rfl⟩ : ∃ wo : World, wo = wr := ⟨_, rfl⟩
        clear HZI
        by_cases hkn : k < nr
        · have t6 : decide ((k : Int) < (nr : Int)) = true := by simp; omega
          have KB := Lib.hid (KBL.out wo i k hZ.out hin hkn)
          obtain ⟨bb, hbb⟩ : ∃ x, x = blocksB P R l i k := ⟨_, rfl⟩
          have HBB := Lib.hid hbb
          rw [← hbb] at KB
          clear hbb
          go_wp2_with fail
          refine KB.out.mono ?_
          rintro en6 w6 ⟨rfl, hb6⟩
          have HZ6 := Lib.hid (below_trans hZ.out hb6)
          clear hb6 KB
          cases bb with
          | true =>
            have HBR : Hid (BlkA P R l (i : Int) (k : Int)) := Lib.hid ⟨fun _ => Or.inr ⟨i, by have := HM.out; omega, hcl.out, rfl, Or.inr ⟨HUN.out, k, by have := HM2.out; omega, hnb.out, HBB.out.symm, rfl⟩⟩, fun e => absurd (by rw [← HEB.out, HE9.out]) e⟩
            go_wp2_with fail
            go_ret3
            exact ⟨⟨_, _, by rw [HE9.out]; rfl, HBR.out⟩, HZ6.out⟩
          | false =>
            have HN9 : Hid (∀ s, s < k + 1 → blocksB P R l i s = false) := Lib.hid (fun s hs => by
              by_cases hsk : s = k
              · rw [hsk, ← HBB.out]
              · exact hnb.out s (by omega))
            go_wp2_with fail
            go_roundw
            case rel => exact ⟨k + 1, by omega, by go_num, HZ6, HN9⟩
            case measure => simp [intOf]; omega
        · have t6 : decide ((k : Int) < (nr : Int)) = false := by simp; omega
          have HC9 : Hid (∀ q, q < i + 1 → ClearB P R l q) := Lib.hid (fun q hq => by
            by_cases hqi : q = i
            · rw [hqi]
              exact ⟨HUN.out, fun s hs => hnb.out s (by have := HM2.out; omega)⟩
            · exact hcl.out q (by omega))
          go_wp2_with fail
          go_roundw
          case rel => exact ⟨i + 1, by omega, by go_num, hZ, HC9⟩
          case measure => simp [intOf]; omega
    · obtain ⟨r, rfl⟩ : ∃ r : Nat, z = (r : Int) := ⟨z.toNat, by omega⟩
      have hrn : r < nr := by omega
      have t1 : decide ((r : Int) ≥ 0) = true := by simp
      obtain ⟨B, off, a', c', ha, hI, -, -, hc⟩ := HP.out.at (i := i) (by have := HM.out; omega)
      obtain ⟨B2, off2, a2, c2, hb, hI2, -, -, hc2⟩ := HR.out.at (i := r) (by have := HM2.out; omega)
      subst ha hb
      have e2 := hc wo hZ.out
      have e3 := hc2 wo hZ.out
      have hl1 := HSP.out.nth i
      have hl2 := HSR.out.nth r
      have W1 := Lib.hid (wants_w (c := c') (x := (r : Int)) (hI.below hZ.out) rfl (by omega))
      have W2 := Lib.hid (wants_w (c := c2) (x := (i : Int)) (hI2.below hZ.out) rfl (by omega))
      obtain ⟨x1, hx1⟩ : ∃ x, x = decide (scoreQ (nthL P i) (r : Int) < (nthL P i).length) := ⟨_, rfl⟩
      obtain ⟨x2, hx2⟩ : ∃ x, x = decide (scoreQ (nthL R r) (i : Int) < (nthL R r).length) := ⟨_, rfl⟩
      have HU : Hid (unwB P R l i = (!x1 || !x2)) := Lib.hid (by
        unfold unwB
        rw [HZI9.out, atL_nat, ← hx1, ← hx2]
        have h9 : decide ((r : Int) ≠ -1) = true := by simp
        rw [h9, Bool.true_and])
      obtain ⟨l1, hl1'⟩ : ∃ x, x = (nthL P i).length := ⟨_, rfl⟩
      obtain ⟨l2, hl2'⟩ : ∃ x, x = (nthL R r).length := ⟨_, rfl⟩
      rw [← hx1, ← hl1'] at W1
      rw [← hx2, ← hl2'] at W2
      rw [← hl1'] at e2
      rw [← hl2'] at e3
      clear hzr hI hI2 hc hc2 hl1 hl2 hx1 hx2 hl1' hl2' hz1
      go_wp2_with fail
      refine W1.out.mono ?_
      rintro en4 w4 ⟨rfl, rfl⟩
      cases x1 with
      | false =>
        have HUN : Hid (unwB P R l i = true) := Lib.hid (by rw [HU.out]; rfl)
        have HBR : Hid (BlkA P R l (i : Int) (-1)) := Lib.hid ⟨fun _ => Or.inr ⟨i, by have := HM.out; omega, hcl.out, rfl, Or.inl ⟨HUN.out, rfl⟩⟩, fun e => absurd (by rw [← HEB.out, HE9.out]) e⟩
        go_wp2_with fail
        go_ret3
        exact ⟨⟨_, _, by rw [HE9.out]; rfl, HBR.out⟩, hZ.out⟩
      | true =>
        go_wp2_with fail
        refine W2.out.mono ?_
        rintro en4 w4 ⟨rfl, rfl⟩
        cases x2 with
        | false =>
          have HUN : Hid (unwB P R l i = true) := Lib.hid (by rw [HU.out]; rfl)
          have HBR : Hid (BlkA P R l (i : Int) (-1)) := Lib.hid ⟨fun _ => Or.inr ⟨i, by have := HM.out; omega, hcl.out, rfl, Or.inl ⟨HUN.out, rfl⟩⟩, fun e => absurd (by rw [← HEB.out, HE9.out]) e⟩
          go_wp2_with fail
          go_ret3
          exact ⟨⟨_, _, by rw [HE9.out]; rfl, HBR.out⟩, hZ.out⟩
        | true =>
          have HUN : Hid (unwB P R l i = false) := Lib.hid (by rw [HU.out]; rfl)
          have HZI := hZ
          clear hZ e1 e2 e3 W1 W2
          go_wp2_with fail
          go_loopw [12] (fun iv wr => ∃ k : Nat, k ≤ nr ∧ iv = .int .i64 k ∧ Hid (Below w.heap.size w wr) ∧ Hid (∀ s, s < k → blocksB P R l i s = false)) (fun iv _ => nr - (intOf iv).toNat)
          case atStart => exact ⟨0, Nat.zero_le _, rfl, HZI, Lib.hid (fun s hs => absurd hs (Nat.not_lt_zero _))⟩
          case round =>
            obtain ⟨k, hk, rfl, hZ, hnb⟩ := hrel
            obtain ⟨wo, rfl⟩ : ∃ wo : World, wo = wr := ⟨_, rfl⟩
            clear HZI
            by_cases hkn : k < nr
            · have t6 : decide ((k : Int) < (nr : Int)) = true := by simp; omega
              have KB := Lib.hid (KBL.out wo i k hZ.out hin hkn)
              obtain ⟨bb, hbb⟩ : ∃ x, x = blocksB P R l i k := ⟨_, rfl⟩
              have HBB := Lib.hid hbb
              rw [← hbb] at KB
              clear hbb
              go_wp2_with fail
              refine KB.out.mono ?_
              rintro en6 w6 ⟨rfl, hb6⟩
              have HZ6 := Lib.hid (below_trans hZ.out hb6)
              clear hb6 KB
              cases bb with
              | true =>
                have HBR : Hid (BlkA P R l (i : Int) (k : Int)) := Lib.hid ⟨fun _ => Or.inr ⟨i, by have := HM.out; omega, hcl.out, rfl, Or.inr ⟨HUN.out, k, by have := HM2.out; omega, hnb.out, HBB.out.symm, rfl⟩⟩, fun e => absurd (by rw [← HEB.out, HE9.out]) e⟩
                go_wp2_with fail
                go_ret3
                exact ⟨⟨_, _, by rw [HE9.out]; rfl, HBR.out⟩, HZ6.out⟩
              | false =>
                have HN9 : Hid (∀ s, s < k + 1 → blocksB P R l i s = false) := Lib.hid (fun s hs => by
                  by_cases hsk : s = k
                  · rw [hsk, ← HBB.out]
                  · exact hnb.out s (by omega))
                go_wp2_with fail
                go_roundw
                case rel => exact ⟨k + 1, by omega, by go_num, HZ6, HN9⟩
                case measure => simp [intOf]; omega
            · have t6 : decide ((k : Int) < (nr : Int)) = false := by simp; omega
              have HC9 : Hid (∀ q, q < i + 1 → ClearB P R l q) := Lib.hid (fun q hq => by
                by_cases hqi : q = i
                · rw [hqi]
                  exact ⟨HUN.out, fun s hs => hnb.out s (by have := HM2.out; omega)⟩
                · exact hcl.out q (by omega))
              go_wp2_with fail
              go_roundw
              case rel => exact ⟨i + 1, by omega, by go_num, hZ, HC9⟩
              case measure => simp [intOf]; omega
end Go.Proofs.Ytomnnickiljkgaa
