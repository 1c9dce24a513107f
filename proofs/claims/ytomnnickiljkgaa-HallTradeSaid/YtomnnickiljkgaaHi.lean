/- A matching seen from its other side; Accept of the package. -/
import Derived.Test.YtomnnickiljkgaaHh
namespace Go.Proofs.Ytomnnickiljkgaa
open Go.RowKit
attribute [local go_sem ↓] Go.wp_at_zero Go.wp_at_succ

/-- A matching seen from its other side, as far as one has come. -/
def TurnQ (l : List Int) (n i : Nat) (g : Nat → Int) : Prop := ∀ j, j < n → (g j = -1 ∧ ∀ k, k < i → l[k]? ≠ some (j : Int)) ∨ ∃ k : Nat, g j = (k : Int) ∧ k < i ∧ l[k]? = some (j : Int)
theorem TurnQ.start (l : List Int) (n : Nat) : TurnQ l n 0 (fun _ => -1) := fun _ _ => Or.inl ⟨rfl, fun _ h => absurd h (Nat.not_lt_zero _)⟩
theorem TurnQ.pass {l : List Int} {n i : Nat} {g : Nat → Int} (h : TurnQ l n i g) (hi : l[i]? = some (-1)) : TurnQ l n (i + 1) g := fun j hj => by
  rcases h j hj with ⟨h1, h2⟩ | ⟨k, h1, h2, h3⟩
  · refine Or.inl ⟨h1, fun k hk e => ?_⟩
    by_cases hki : k = i
    · subst hki
      rw [hi] at e
      have := Option.some.inj e
      omega
    · exact h2 k (by omega) e
  · exact Or.inr ⟨k, h1, by omega, h3⟩
theorem TurnQ.put {l : List Int} {n i j0 : Nat} {g : Nat → Int} (h : TurnQ l n i g) (hi : l[i]? = some (j0 : Int)) : TurnQ l n (i + 1) (fun j => if j = j0 then (i : Int) else g j) := fun j hj => by
  by_cases hjj : j = j0
  · subst hjj
    exact Or.inr ⟨i, by simp, by omega, hi⟩
  · dsimp only
    rw [if_neg hjj]
    rcases h j hj with ⟨h1, h2⟩ | ⟨k, h1, h2, h3⟩
    · refine Or.inl ⟨h1, fun k hk e => ?_⟩
      by_cases hki : k = i
      · subst hki
        rw [hi] at e
        have := Option.some.inj e
        omega
      · exact h2 k (by omega) e
    · exact Or.inr ⟨k, h1, by omega, h3⟩
theorem TurnQ.range {l : List Int} {n i : Nat} {g : Nat → Int} (h : TurnQ l n i g) {j : Nat} (hj : j < n) : -1 ≤ g j ∧ g j < i := by
  rcases h j hj with ⟨h1, _⟩ | ⟨k, h1, h2, _⟩
  · omega
  · omega
set_option maxRecDepth 8000 in
set_option maxHeartbeats 4000000 in
theorem turned_w {w : World} {n m c : Nat} {a : Option Addr} {l : List Int} (h : IntsF w a l) (hm : m = l.length) (hm9 : m ≤ 12) (hn : n ≤ 8) (hr : ∀ z ∈ l, z = -1 ∨ (0 ≤ z ∧ z < n)) :
    Calls Try.prog 32 #[.slice a m c, .int .i64 (n : Nat)] w fun e w' => (∃ B g, e = .returned (.slice (some ⟨B, 0, none⟩) n n) ∧ w.heap.size ≤ B ∧ BlkI w' B (tabI n g) ∧ TurnQ l n m g) ∧ Below w.heap.size w w' := by
  have HI := Lib.hid h
  have HM := Lib.hid hm
  have HRG := Lib.hid hr
  have KN := Lib.hid (nothing_w (w := w) (n := n) hn)
  clear h hm hr
  go_enter Try.func32, Try.ntmps32
  go_wp2_with fail
  refine KN.out.mono ?_
  rintro en1 w1 ⟨G, rfl, hG, hT1, hb1⟩
  have HG := Lib.hid hG
  have HB1 := Lib.hid hb1
  have HT1 : Hid (BlkI w1 G (tabI n (fun _ => -1))) := Lib.hid (by rw [tab_rep]; exact hT1)
  clear hG hb1 hT1 KN
  go_wp2_with fail
  go_loopw [12] (fun iv wr => ∃ (i : Nat) (g : Nat → Int), i ≤ m ∧ iv = .int .i64 i ∧ Hid (BlkI wr G (tabI n g)) ∧ Hid (TurnQ l n i g) ∧ Hid (Below w.heap.size w wr)) (fun iv _ => m - (intOf iv).toNat)
  case atStart => exact ⟨0, _, Nat.zero_le _, rfl, HT1, Lib.hid (TurnQ.start l n), HB1⟩
  case round =>
    obtain ⟨i, g, hi, rfl, hT, hQ, hZ⟩ := hrel
    obtain ⟨wo, rfl⟩ : ∃ wo : World, wo = wr := ⟨_, rfl⟩
    clear HT1 HB1
    by_cases hin : i < m
    · have t0 : decide ((i : Int) < (m : Int)) = true := by simp; omega
      obtain ⟨z, B, off, hz, ha, hzb, hc⟩ := HI.out.at (i := i) (by have := HM.out; omega)
      subst ha
      have e1 := hc wo hZ.out
      have HLZ := Lib.hid hz
      have hzr := HRG.out z (List.mem_of_getElem? hz)
      clear hc hz hzb
      by_cases hzn : z = -1
      · subst hzn
        have HQ9 := Lib.hid (hQ.out.pass HLZ.out)
        clear hzr
        go_wp2_with fail
        go_roundw
        case rel => exact ⟨i + 1, g, by omega, by go_num, hT, HQ9, hZ⟩
        case measure => simp [intOf]; omega
      · have t1 : (z == -1) = false := by simpa using hzn
        have t2 : (z != -1) = true := by simpa using hzn
        obtain ⟨j, rfl⟩ : ∃ j : Nat, z = (j : Int) := ⟨z.toNat, by omega⟩
        have hjn : j < n := by omega
        have HQ9 := Lib.hid (hQ.out.put HLZ.out)
        have e2 : wo.cell? ⟨G, j, none⟩ = some (.int .i64 (g j)) := hT.out.cell (tab_get hjn)
        have z0 := hT.out.frozen j
        have HT9 : Hid (BlkI (wo.setCell ⟨G, j, none⟩ (.int .i64 (i : Nat))) G (tabI n (fun k => if k = j then (i : Int) else g k))) := Lib.hid (by
          have h9 := hT.out.setCell j (i : Int)
          rw [tab_set] at h9
          exact h9)
        have HZ9 : Hid (Below w.heap.size w (wo.setCell ⟨G, j, none⟩ (.int .i64 (i : Nat)))) := Lib.hid (below_only hZ.out ((Only.refl G wo).setCell j _) HG.out)
        obtain ⟨gj, hgj⟩ : ∃ gj, gj = g j := ⟨_, rfl⟩
        rw [← hgj] at e2
        clear hgj hzr hT hZ
        go_wp2_with fail
        go_roundw
        case rel => exact ⟨i + 1, _, by omega, by go_num, HT9, HQ9, HZ9⟩
        case measure => simp [intOf]; omega
    · have t0 : decide ((i : Int) < (m : Int)) = false := by simp; omega
      have HQ9 : Hid (TurnQ l n m g) := Lib.hid (by have := hQ.out; rwa [show i = m by omega] at this)
      go_wp2_with fail
      go_ret
      exact ⟨⟨G, g, rfl, HG.out, hT.out, HQ9.out⟩, hZ.out⟩

/-- What deferred acceptance tells. -/
def AccQ (P R : List (List Int)) (l : List Int) : Prop := (errS P R = 0 → ∃ m, l = tabI P.length m ∧ EndQ P R m) ∧ (errS P R ≠ 0 → l = [])
theorem AccQ.one {P R : List (List Int)} {l k : List Int} (h : AccQ P R l) (h' : AccQ P R k) : l = k := by
  by_cases he : errS P R = 0
  · obtain ⟨m, rfl, hm⟩ := h.1 he
    obtain ⟨m', rfl, hm'⟩ := h'.1 he
    exact tab_congr (fun i hi => hm.one (errS_ok he).1 hm' hi)
  · rw [h.2 he, h'.2 he]
theorem AccQ.range {P R : List (List Int)} {l : List Int} (h : AccQ P R l) {z : Int} (hz : z ∈ l) : z = -1 ∨ (0 ≤ z ∧ z < R.length) := by
  by_cases he : errS P R = 0
  · obtain ⟨m, rfl, hm⟩ := h.1 he
    obtain ⟨i, hi, e⟩ := mem_tab hz
    rcases hm.stable.own i hi with e1 | ⟨e1, _⟩
    · left; rw [← e, e1]
    · right; rw [← e]; exact (sides_P (errS_ok he).1 i).2 _ e1
  · rw [h.2 he] at hz; cases hz
theorem AccQ.wide {P R : List (List Int)} {l : List Int} (h : AccQ P R l) (hR : R.length ≤ 100) {z : Int} (hz : z ∈ l) : -9223372036854775808 ≤ z ∧ z ≤ 9223372036854775807 := by
  rcases h.range hz with e | e <;> omega
theorem AccQ.len {P R : List (List Int)} {l : List Int} (h : AccQ P R l) (hP : P.length ≤ 12) : l.length ≤ 12 := by
  by_cases he : errS P R = 0
  · obtain ⟨m, rfl, hm⟩ := h.1 he
    rw [tab_len]; exact hP
  · rw [h.2 he]; simp
theorem turn_end {P R : List (List Int)} {c : Nat → Nat} {h : Int → Int} {g : Nat → Int} (hS : sidesQ P R) (H : Inv P R c h) (hd : ∀ p, p < P.length → DoneQ P c h p) (hg : TurnQ (tabI R.length (fun s => h (s : Int))) P.length R.length g) : EndQ P R g := by
  refine H.done hS hd (fun p hp => ?_)
  have hl : ∀ k v, (tabI R.length (fun s => h (s : Int)))[k]? = some v → k < R.length ∧ h (k : Int) = v := by
    intro k v hk
    have h1 := (List.getElem?_eq_some_iff.1 hk).1
    rw [tab_len] at h1
    rw [tab_get h1] at hk
    exact ⟨h1, Option.some.inj hk⟩
  refine ⟨fun hne => ?_, fun r hr => ?_⟩
  · rcases hg p hp with ⟨e, _⟩ | ⟨k, e, _, e2⟩
    · exact absurd e hne
    · rw [e]; exact (hl k _ e2).2
  · have hb : 0 ≤ r ∧ r < R.length := by
      apply Classical.byContradiction
      intro hn
      have := H.outside hS hn
      omega
    obtain ⟨r, rfl⟩ : ∃ k : Nat, r = (k : Int) := ⟨r.toNat, by omega⟩
    rcases hg p hp with ⟨e, e2⟩ | ⟨k, e, _, e2⟩
    · exact absurd (by rw [tab_get (by omega), hr]) (e2 r (by omega))
    · rw [e]; exact H.one (hl k _ e2).2 hr

set_option maxRecDepth 8000 in
set_option maxHeartbeats 4000000 in
theorem accept_w {w : World} {np ca nr cb : Nat} {a b : Option Addr} {P R : List (List Int)} (h : RowsF w a P) (hs : SmallL P) (hm : np = P.length) (h2 : RowsF w b R) (hs2 : SmallL R) (hm2 : nr = R.length) :
    Calls Try.prog 12 #[.slice a np ca, .slice b nr cb] w fun e w' => (∃ va vc l, e = .returned (.tuple #[.slice va l.length vc, .int .i64 (errS P R)]) ∧ IntsF w' va l ∧ AccQ P R l) ∧ Below w.heap.size w w' := by
  have K1 := Lib.hid (checkSides_w (c := ca) (c2 := cb) h hs hm h2 hs2 hm2)
  obtain ⟨x, hx⟩ : ∃ x, x = errS P R := ⟨_, rfl⟩
  have HX := Lib.hid hx
  have HM := Lib.hid hm
  have HM2 := Lib.hid hm2
  have KK := Lib.hid (fun w' (hb : Below w.heap.size w w') (hn : nr ≤ 8) (hS : sidesQ P R) => kept_w (ca := ca) (cb := cb) (h.below hb) hs hm (h2.below hb) hs2 hm2 hn hS)
  rw [← hx] at K1 ⊢
  clear h hs hm h2 hs2 hm2 hx
  go_enter Try.func12, Try.ntmps12
  go_wp2_with fail
  refine K1.out.mono ?_
  rintro en2 w2 ⟨rfl, hb2⟩
  have HZ2 := Lib.hid hb2
  clear hb2 K1
  by_cases hx0 : x = 0
  · have hok := errS_ok (P := P) (R := R) (by rw [← HX.out]; exact hx0)
    have HS := Lib.hid hok.1
    have hnp : np ≤ 8 := by have := HM.out; omega
    have hnr : nr ≤ 8 := by have := HM2.out; omega
    have HX0 := Lib.hid hx0
    clear hok
    subst hx0
    go_wp2_with fail
    refine (KK.out _ HZ2.out hnr HS.out).mono ?_
    rintro en3 w3 ⟨⟨B, c, h, rfl, hB, hT, hI, hd⟩, hb3⟩
    have HZ3 := Lib.hid (below_trans HZ2.out hb3)
    have HT := Lib.hid hT
    have HIV := Lib.hid hI
    have HD := Lib.hid hd
    have KT := Lib.hid (turned_w (w := w3) (n := np) (m := nr) (c := nr) (a := some ⟨B, 0, none⟩) (l := tabI nr (fun s => h (s : Int))) (hT.ints (fun z hz => by
      have h8 := HM.out
      obtain ⟨i, hi, e⟩ := mem_tab hz
      rcases hI.range (i : Int) with e9 | e9 <;> omega)) (tab_len _ _).symm (by omega) hnp (fun z hz => by
      obtain ⟨i, hi, e⟩ := mem_tab hz
      rcases hI.range (i : Int) with e9 | e9
      · left; rw [← e, e9]
      · right; rw [← e]; have := HM.out; omega))
    clear hb3 hB hT hI hd KK
    go_wp2_with fail
    refine KT.out.mono ?_
    rintro en4 w4 ⟨⟨G, g, rfl, hG, hU, hQ⟩, hb4⟩
    have HZ4 := Lib.hid (below_trans HZ3.out hb4)
    have HU := Lib.hid hU
    have HQ := Lib.hid hQ
    clear hb4 hG hU hQ KT
    go_wp2_with fail
    go_ret2
    refine ⟨⟨some ⟨G, 0, none⟩, np, tabI np g, by rw [tab_len]; rfl, HU.out.ints (fun z hz => ?_), fun _ => ⟨g, by rw [← HM.out], turn_end HS.out HIV.out (fun p hp => HD.out p (by have := HM.out; omega)) (by have := HQ.out; rw [HM.out, HM2.out] at this; exact this)⟩, fun hne => absurd HX.out.symm hne⟩, HZ4.out⟩
    obtain ⟨i, hi, e⟩ := mem_tab hz
    have := HQ.out.range hi
    omega
  · have u1 : (x == 0) = false := by simpa using hx0
    have u2 : (x != 0) = true := by simpa using hx0
    have HX0 := Lib.hid hx0
    go_wp2_with fail
    go_ret2
    exact ⟨⟨none, 0, [], rfl, IntsF.nil _ _, fun he => absurd (HX.out.trans he) HX0.out, fun _ => rfl⟩, HZ2.out⟩
end Go.Proofs.Ytomnnickiljkgaa
