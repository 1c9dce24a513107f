/- Several texts in one: Rf, Rg, Rh. -/
import Derived.Test.YtlaphdlocchagaaZ15
/- Fractions as they come: are they right? -/
namespace Go.Proofs.Ytlaphdlocchagaa
open Go.RowKit

/-- A fraction as it comes: a sign, and any words. -/
def RawF (w : World) (v : Value) (b : Bool) (l m : List Nat) : Prop := ∃ u d, v = .agg #[.bool b, u, d] ∧ IsW w u l ∧ IsW w d m
theorem RawF.below {w w' : World} {v : Value} {b : Bool} {l m : List Nat} (h : RawF w v b l m) (hb : Below w.heap.size w w') : RawF w' v b l m := by
  obtain ⟨n, d, rfl, hn, hd⟩ := h
  exact ⟨n, d, rfl, hn.below hb, hd.below hb⟩
def normB (l : List Nat) : Bool := decide (Norm l)
def shortF (l m : List Nat) : Bool := decide (l.length + m.length ≤ 4096)
/-- Is it right? -/
def rightB (b : Bool) (l m : List Nat) : Bool := shortF l m && (normB l && (normB m && (!nilB m && (!(b && nilB l) && oneB (Nat.gcd (val l) (val m))))))

theorem trimmed_b {w : World} {v : Value} {l : List Nat} (h : IsW w v l) :
    Calls Try.prog 67 #[v] w fun e w' => e = .returned (.bool (normB l)) ∧ w = w' := trimmed_w h

set_option maxRecDepth 4000 in
set_option maxHeartbeats 1000000 in
theorem right_w {w : World} {v : Value} {b : Bool} {l m : List Nat} (hv : RawF w v b l m) :
    Calls Try.prog 46 #[v] w fun e w' => e = .returned (.bool (rightB b l m)) ∧ Below w.heap.size w w' := by
  obtain ⟨u, d, rfl, hu, hd⟩ := hv
  have HU := Lib.hid hu
  have HD := Lib.hid hd
  obtain ⟨ua, uc, rfl, u1, u2, u3, u4, u5⟩ := hu
  obtain ⟨da, dc, rfl, d1, d2, d3, d4, d5⟩ := hd
  clear u3 u4 u5 d3 d4 d5
  have HB0 : Hid (∀ o, Below w.heap.size w (w.alloc o)) := Lib.hid (fun o => (Below.refl _ _).alloc (Nat.le_refl _) o)
  by_cases h1 : l.length ≤ 4096
  · by_cases h2 : l.length + m.length ≤ 4096
    · have e1 : decide ((4096 : Int) < (l.length : Int)) = false := by simp; omega
      have e2 : decide ((4096 : Int) - (l.length : Int) < (m.length : Int)) = false := by simp; omega
      have HS : Hid (shortF l m = true) := Lib.hid (by simp [shortF, h2])
      go_enter Try.func46, Try.ntmps46
      go_wp2_with fail
      obtain ⟨w1, hw1⟩ : ∃ w1, w1 = w.alloc (Obj.cells #[Value.bool b, Value.slice ua l.length uc, Value.slice da m.length dc] 34) := ⟨_, rfl⟩
      rw [← hw1]
      have HB1 : Hid (Below w.heap.size w w1) := Lib.hid (by rw [hw1]; exact HB0.out _)
      have hb1 : w1.heap[w.heap.size]? = some (.cells #[Value.bool b, Value.slice ua l.length uc, Value.slice da m.length dc] 34 (0, 0)) := by rw [hw1]; exact heap_alloc_new w _
      have c0 : w1.cell? ⟨w.heap.size, 0, none⟩ = some (Value.bool b) := by rw [cell_of_row _ _ _ _ _ _ hb1]; rfl
      have c1 : w1.cell? ⟨w.heap.size, 1, none⟩ = some (Value.slice ua l.length uc) := by rw [cell_of_row _ _ _ _ _ _ hb1]; rfl
      have c2 : w1.cell? ⟨w.heap.size, 2, none⟩ = some (Value.slice da m.length dc) := by rw [cell_of_row _ _ _ _ _ _ hb1]; rfl
      clear hw1 hb1
      by_cases n1 : normB l = true
      · by_cases n2 : normB m = true
        · by_cases n3 : nilB m = true
          · have HR : Hid (rightB b l m = false) := Lib.hid (by unfold rightB; rw [n1, n2, n3, HS.out]; rfl)
            go_quiet (fail)
            go_wp2_with fail
            refine (trimmed_b ((HU.out.below HB1.out).drewN _)).mono ?_
            rintro en w2 ⟨rfl, rfl⟩
            go_wp2_with fail
            refine (trimmed_b ((HD.out.below HB1.out).drewN _)).mono ?_
            rintro en w2 ⟨rfl, rfl⟩
            go_wp2_with fail
            refine (isZero_v ((HD.out.below HB1.out).drewN _)).mono ?_
            rintro en w2 ⟨rfl, rfl⟩
            go_wp2_with fail
            go_ret
            exact ⟨by rw [HR.out]; rfl, below_drewN HB1.out _⟩
          · have n3' : nilB m = false := by simpa using n3
            clear n3
            have HG : Hid (∀ c : Bool, (b && nilB l) = c → rightB b l m = (!c && oneB (Nat.gcd (val l) (val m)))) := Lib.hid (fun c hc => by unfold rightB; rw [n1, n2, n3', HS.out, hc]; simp)
            have HL : Hid (l = digs (val l) ∧ m = digs (val m)) := Lib.hid ⟨(digs_val l HU.out.ws (by simpa [normB] using n1)).symm, (digs_val m HD.out.ws (by simpa [normB] using n2)).symm⟩
            cases b with
            | true =>
              by_cases n4 : nilB l = true
              · have HR : Hid (rightB true l m = false) := Lib.hid (by rw [HG.out true (by rw [n4]; rfl)]; rfl)
                go_quiet (fail)
                go_wp2_with fail
                refine (trimmed_b ((HU.out.below HB1.out).drewN _)).mono ?_
                rintro en w2 ⟨rfl, rfl⟩
                go_wp2_with fail
                refine (trimmed_b ((HD.out.below HB1.out).drewN _)).mono ?_
                rintro en w2 ⟨rfl, rfl⟩
                go_wp2_with fail
                refine (isZero_v ((HD.out.below HB1.out).drewN _)).mono ?_
                rintro en w2 ⟨rfl, rfl⟩
                go_wp2_with fail
                refine (isZero_v ((HU.out.below HB1.out).drewN _)).mono ?_
                rintro en w2 ⟨rfl, rfl⟩
                go_wp2_with fail
                go_ret
                exact ⟨by rw [HR.out]; rfl, below_drewN HB1.out _⟩
              · have n4' : nilB l = false := by simpa using n4
                clear n4
                have HR : Hid (rightB true l m = oneB (Nat.gcd (val l) (val m))) := Lib.hid (by rw [HG.out false (by rw [n4']; rfl)]; rfl)
                go_quiet (fail)
                go_wp2_with fail
                refine (trimmed_b ((HU.out.below HB1.out).drewN _)).mono ?_
                rintro en w2 ⟨rfl, rfl⟩
                go_wp2_with fail
                refine (trimmed_b ((HD.out.below HB1.out).drewN _)).mono ?_
                rintro en w2 ⟨rfl, rfl⟩
                go_wp2_with fail
                refine (isZero_v ((HD.out.below HB1.out).drewN _)).mono ?_
                rintro en w2 ⟨rfl, rfl⟩
                go_wp2_with fail
                refine (isZero_v ((HU.out.below HB1.out).drewN _)).mono ?_
                rintro en w2 ⟨rfl, rfl⟩
                go_wp2_with fail
                refine (gcd_w (x := val l) (y := val m) (HL.out.1 ▸ ((HU.out.below HB1.out).drewN _)) (HL.out.2 ▸ ((HD.out.below HB1.out).drewN _)) (by rw [← HL.out.1]; omega) (by rw [← HL.out.2]; omega)).mono ?_
                rintro en w3 ⟨⟨g, rfl, hg, hgo⟩, hbel3⟩
                have HGV := Lib.hid hg
                clear hg hgo
                go_wp2_with fail
                refine (isOne_w HGV.out).mono ?_
                rintro en w4 ⟨rfl, rfl⟩
                go_wp2_with fail
                go_ret
                exact ⟨by rw [HR.out]; rfl, below_trans (below_drewN HB1.out _) hbel3⟩
            | false =>
              have HR : Hid (rightB false l m = oneB (Nat.gcd (val l) (val m))) := Lib.hid (by rw [HG.out false rfl]; rfl)
              go_quiet (fail)
              go_wp2_with fail
              refine (trimmed_b ((HU.out.below HB1.out).drewN _)).mono ?_
              rintro en w2 ⟨rfl, rfl⟩
              go_wp2_with fail
              refine (trimmed_b ((HD.out.below HB1.out).drewN _)).mono ?_
              rintro en w2 ⟨rfl, rfl⟩
              go_wp2_with fail
              refine (isZero_v ((HD.out.below HB1.out).drewN _)).mono ?_
              rintro en w2 ⟨rfl, rfl⟩
              go_wp2_with fail
              refine (gcd_w (x := val l) (y := val m) (HL.out.1 ▸ ((HU.out.below HB1.out).drewN _)) (HL.out.2 ▸ ((HD.out.below HB1.out).drewN _)) (by rw [← HL.out.1]; omega) (by rw [← HL.out.2]; omega)).mono ?_
              rintro en w3 ⟨⟨g, rfl, hg, hgo⟩, hbel3⟩
              have HGV := Lib.hid hg
              clear hg hgo
              go_wp2_with fail
              refine (isOne_w HGV.out).mono ?_
              rintro en w4 ⟨rfl, rfl⟩
              go_wp2_with fail
              go_ret
              exact ⟨by rw [HR.out]; rfl, below_trans (below_drewN HB1.out _) hbel3⟩
        · have n2' : normB m = false := by simpa using n2
          have HR : Hid (rightB b l m = false) := Lib.hid (by unfold rightB; rw [n1, n2', HS.out]; rfl)
          clear n2
          go_quiet (fail)
          go_wp2_with fail
          refine (trimmed_b ((HU.out.below HB1.out).drewN _)).mono ?_
          rintro en w2 ⟨rfl, rfl⟩
          go_wp2_with fail
          refine (trimmed_b ((HD.out.below HB1.out).drewN _)).mono ?_
          rintro en w2 ⟨rfl, rfl⟩
          go_wp2_with fail
          go_ret
          exact ⟨by rw [HR.out]; rfl, below_drewN HB1.out _⟩
      · have n1' : normB l = false := by simpa using n1
        have HR : Hid (rightB b l m = false) := Lib.hid (by unfold rightB; rw [n1', HS.out]; rfl)
        clear n1
        go_quiet (fail)
        go_wp2_with fail
        refine (trimmed_b ((HU.out.below HB1.out).drewN _)).mono ?_
        rintro en w2 ⟨rfl, rfl⟩
        go_wp2_with fail
        go_ret
        exact ⟨by rw [HR.out]; rfl, below_drewN HB1.out _⟩
    · have e1 : decide ((4096 : Int) < (l.length : Int)) = false := by simp; omega
      have e2 : decide ((4096 : Int) - (l.length : Int) < (m.length : Int)) = true := by simp; omega
      have HS : Hid (rightB b l m = false) := Lib.hid (by unfold rightB; rw [show shortF l m = false by simp [shortF]; omega]; rfl)
      go_enter Try.func46, Try.ntmps46
      go_wp2_with fail
      obtain ⟨w1, hw1⟩ : ∃ w1, w1 = w.alloc (Obj.cells #[Value.bool b, Value.slice ua l.length uc, Value.slice da m.length dc] 34) := ⟨_, rfl⟩
      rw [← hw1]
      have HB1 : Hid (Below w.heap.size w w1) := Lib.hid (by rw [hw1]; exact HB0.out _)
      have hb1 : w1.heap[w.heap.size]? = some (.cells #[Value.bool b, Value.slice ua l.length uc, Value.slice da m.length dc] 34 (0, 0)) := by rw [hw1]; exact heap_alloc_new w _
      have c0 : w1.cell? ⟨w.heap.size, 0, none⟩ = some (Value.bool b) := by rw [cell_of_row _ _ _ _ _ _ hb1]; rfl
      have c1 : w1.cell? ⟨w.heap.size, 1, none⟩ = some (Value.slice ua l.length uc) := by rw [cell_of_row _ _ _ _ _ _ hb1]; rfl
      have c2 : w1.cell? ⟨w.heap.size, 2, none⟩ = some (Value.slice da m.length dc) := by rw [cell_of_row _ _ _ _ _ _ hb1]; rfl
      clear hw1 hb1
      go_quiet (fail)
      go_wp2_with fail
      go_ret
      exact ⟨by rw [HS.out]; rfl, below_drewN HB1.out _⟩
  · have e1 : decide ((4096 : Int) < (l.length : Int)) = true := by simp; omega
    have HS : Hid (rightB b l m = false) := Lib.hid (by unfold rightB; rw [show shortF l m = false by simp [shortF]; omega]; rfl)
    go_enter Try.func46, Try.ntmps46
    go_wp2_with fail
    obtain ⟨w1, hw1⟩ : ∃ w1, w1 = w.alloc (Obj.cells #[Value.bool b, Value.slice ua l.length uc, Value.slice da m.length dc] 34) := ⟨_, rfl⟩
    rw [← hw1]
    have HB1 : Hid (Below w.heap.size w w1) := Lib.hid (by rw [hw1]; exact HB0.out _)
    have hb1 : w1.heap[w.heap.size]? = some (.cells #[Value.bool b, Value.slice ua l.length uc, Value.slice da m.length dc] 34 (0, 0)) := by rw [hw1]; exact heap_alloc_new w _
    have c0 : w1.cell? ⟨w.heap.size, 0, none⟩ = some (Value.bool b) := by rw [cell_of_row _ _ _ _ _ _ hb1]; rfl
    have c1 : w1.cell? ⟨w.heap.size, 1, none⟩ = some (Value.slice ua l.length uc) := by rw [cell_of_row _ _ _ _ _ _ hb1]; rfl
    have c2 : w1.cell? ⟨w.heap.size, 2, none⟩ = some (Value.slice da m.length dc) := by rw [cell_of_row _ _ _ _ _ _ hb1]; rfl
    clear hw1 hb1
    go_quiet (fail)
    go_wp2_with fail
    go_ret
    exact ⟨by rw [HS.out]; rfl, below_drewN HB1.out _⟩
end Go.Proofs.Ytlaphdlocchagaa

/- Fractions as they come: what they stand for. -/
namespace Go.Proofs.Ytlaphdlocchagaa
open Go.RowKit

/-- What a fraction as it comes stands for. -/
def fixR (b : Bool) (l m : List Nat) : Rat := if rightB b l m = true then mkRat (if b then -(val l : Int) else val l) (val m) else 0

theorem right_parts {b : Bool} {l m : List Nat} (h : rightB b l m = true) : l.length + m.length ≤ 4096 ∧ Norm l ∧ Norm m ∧ m ≠ [] ∧ (b = true → l ≠ []) ∧ Nat.gcd (val l) (val m) = 1 := by
  unfold rightB shortF normB nilB oneB at h
  simp only [Bool.and_eq_true, decide_eq_true_eq, Bool.not_eq_true', decide_eq_false_iff_not] at h
  obtain ⟨h1, h2, h3, h4, h5, h6⟩ := h
  refine ⟨h1, h2, h3, fun e => h4 (by rw [e]; rfl), fun hb e => ?_, h6⟩
  subst hb; subst e
  simp at h5

/-- A right fraction is what it is written as. -/
theorem right_rat {b : Bool} {l m : List Nat} (hl : Ws l) (hm : Ws m) (h : rightB b l m = true) :
    l = digs (fixR b l m).num.natAbs ∧ m = digs (fixR b l m).den ∧ b = decide ((fixR b l m).num < 0) ∧ lenQ (fixR b l m) ≤ 4096 := by
  obtain ⟨h1, h2, h3, h4, h5, h6⟩ := right_parts h
  have e1 := digs_val l hl h2
  have e2 := digs_val m hm h3
  have hm0 : val m ≠ 0 := fun e => h4 (by rw [← e2, e, digs_zero])
  have hna : (if b then -(val l : Int) else (val l : Int)).natAbs = val l := by cases b <;> simp
  have hn : (fixR b l m).num = if b then -(val l : Int) else val l := by
    unfold fixR
    rw [if_pos h, mkRat_num hm0, hna, h6]; simp
  have hd : (fixR b l m).den = val m := by
    unfold fixR
    rw [if_pos h, mkRat_den hm0, hna, h6]; simp
  have hl2 : l = digs (fixR b l m).num.natAbs := by rw [hn, hna, e1]
  have hm2 : m = digs (fixR b l m).den := by rw [hd, e2]
  refine ⟨hl2, hm2, ?_, by unfold lenQ; rw [← hl2, ← hm2]; exact h1⟩
  rw [hn]
  cases b with
  | false => simp
  | true =>
    have : val l ≠ 0 := fun e => h5 rfl (by rw [← e1, e, digs_zero])
    simp; omega

theorem fix_len {b : Bool} {l m : List Nat} (hl : Ws l) (hm : Ws m) : lenQ (fixR b l m) ≤ 4096 := by
  by_cases h : rightB b l m = true
  · exact (right_rat hl hm h).2.2.2
  · unfold fixR; rw [if_neg h]
    have e1 : digs (0 : Rat).num.natAbs = [] := by show digs 0 = []; exact digs_zero
    have e2 : digs (0 : Rat).den = [1] := by show digs 1 = [1]; unfold digs; simp [digs]
    unfold lenQ; rw [e1, e2]; simp

set_option maxHeartbeats 1000000 in
theorem read_w {w : World} {v : Value} {b : Bool} {l m : List Nat} (hv : RawF w v b l m) :
    Calls Try.prog 32 #[v] w fun e w' => (∃ r, e = .returned r ∧ RatQ w' r (fixR b l m)) ∧ Below w.heap.size w w' := by
  have HV := Lib.hid hv
  obtain ⟨u, d, rfl, hu, hd⟩ := hv
  obtain ⟨ua, un, uc, hue⟩ := hu.form
  subst hue
  obtain ⟨da, dn, dc, hde⟩ := hd.form
  subst hde
  have HU := Lib.hid hu
  have HD := Lib.hid hd
  clear hu hd
  have HB0 : Hid (∀ o p, Below w.heap.size w ((w.alloc o).alloc p)) := Lib.hid (fun o p => ((Below.refl _ _).alloc (Nat.le_refl _) o).alloc (by simp) p)
  by_cases h : rightB b l m = true
  · have HRT := Lib.hid (right_rat HU.out.ws HD.out.ws h)
    go_enter Try.func32, Try.ntmps32
    go_wp2_with fail
    refine (right_w (HV.out.below (HB0.out _ _))).mono ?_
    rintro en w1 ⟨rfl, hbel1⟩
    have HB1 := Lib.hid (below_trans (HB0.out _ _) hbel1)
    have hb1 : w1.heap[w.heap.size]? = some (.cells #[Value.bool b, Value.slice ua un uc, Value.slice da dn dc] 34 (0, 0)) := (hbel1.block _ (by simp; omega)).trans (heap_alloc2_old w _ _)
    have hb2 : w1.heap[w.heap.size + 1]? = some (.cells #[Value.slice none 0 0, Value.bool false, Value.slice none 0 0] 62 (0, 0)) := (hbel1.block _ (by simp)).trans (heap_alloc2_new w _ _)
    have c0 : w1.cell? ⟨w.heap.size, 0, none⟩ = some (Value.bool b) := by rw [cell_of_row _ _ _ _ _ _ hb1]; rfl
    have c1 : w1.cell? ⟨w.heap.size, 1, none⟩ = some (Value.slice ua un uc) := by rw [cell_of_row _ _ _ _ _ _ hb1]; rfl
    have c2 : w1.cell? ⟨w.heap.size, 2, none⟩ = some (Value.slice da dn dc) := by rw [cell_of_row _ _ _ _ _ _ hb1]; rfl
    have r0 : w1.cell? ⟨w.heap.size + 1, 0, none⟩ = some (Value.slice none 0 0) := by rw [cell_of_row _ _ _ _ _ _ hb2]; rfl
    have r1 : w1.cell? ⟨w.heap.size + 1, 1, none⟩ = some (Value.bool false) := by rw [cell_of_row _ _ _ _ _ _ hb2]; rfl
    have r2 : w1.cell? ⟨w.heap.size + 1, 2, none⟩ = some (Value.slice none 0 0) := by rw [cell_of_row _ _ _ _ _ _ hb2]; rfl
    have f0 := frozen_of_row _ _ 0 _ _ hb2
    have f1 := frozen_of_row _ _ 1 _ _ hb2
    have f2 := frozen_of_row _ _ 2 _ _ hb2
    have HB2 := Lib.hid hb2
    clear hb1 hb2 hbel1
    go_wp2_with fail
    have h9 := rat3_q (q := fixR b l m) HB2.out (u := Value.slice ua un uc) (d := Value.slice da dn dc) (by rw [← HRT.out.1]; exact HU.out.below HB1.out) (by rw [← HRT.out.2.1]; exact HD.out.below HB1.out)
    rw [← HRT.out.2.2.1] at h9
    exact bodyPost_ret (results_cell_row rfl _ _ (w.heap.size + 1) _ _ _ _ rfl (rat3_heap HB2.out) Try.underlying62 rfl irat) rfl ⟨⟨_, rfl, h9⟩, below_only HB1.out (rat3_only _ _ _ _ _) (by omega)⟩
  · have h' : rightB b l m = false := by simpa using h
    have HF : Hid (fixR b l m = 0) := Lib.hid (by unfold fixR; rw [if_neg h])
    clear h
    go_enter Try.func32, Try.ntmps32
    go_wp2_with fail
    refine (right_w (HV.out.below (HB0.out _ _))).mono ?_
    rintro en w1 ⟨rfl, hbel1⟩
    have HB1 := Lib.hid (below_trans (HB0.out _ _) hbel1)
    have hb2 : w1.heap[w.heap.size + 1]? = some (.cells #[Value.slice none 0 0, Value.bool false, Value.slice none 0 0] 62 (0, 0)) := (hbel1.block _ (by simp)).trans (heap_alloc2_new w _ _)
    have HB2 := Lib.hid hb2
    clear hb2 hbel1
    go_wp2_with fail
    refine zero_w.mono ?_
    rintro en w2 ⟨⟨zv, rfl, zu, zd, rfl, hzu, hzd⟩, hbel2⟩
    obtain ⟨za, zn, zc, hze⟩ := hzu.form
    subst hze
    obtain ⟨ya, yn, yc, hye⟩ := hzd.form
    subst hye
    have hR2 := (hbel2.block _ (lt_of_block HB2.out)).trans HB2.out
    have HBb := Lib.hid (below_trans HB1.out hbel2)
    have HZU := Lib.hid hzu
    have HZD := Lib.hid hzd
    have r0 : w2.cell? ⟨w.heap.size + 1, 0, none⟩ = some (Value.slice none 0 0) := by rw [cell_of_row _ _ _ _ _ _ hR2]; rfl
    have r1 : w2.cell? ⟨w.heap.size + 1, 1, none⟩ = some (Value.bool false) := by rw [cell_of_row _ _ _ _ _ _ hR2]; rfl
    have r2 : w2.cell? ⟨w.heap.size + 1, 2, none⟩ = some (Value.slice none 0 0) := by rw [cell_of_row _ _ _ _ _ _ hR2]; rfl
    have f0 := frozen_of_row _ _ 0 _ _ hR2
    have f1 := frozen_of_row _ _ 1 _ _ hR2
    have f2 := frozen_of_row _ _ 2 _ _ hR2
    have HR2 := Lib.hid hR2
    clear hR2 hzu hzd hbel2
    go_wp2_with fail
    exact bodyPost_ret (results_cell_row rfl _ _ (w.heap.size + 1) _ _ _ _ rfl (rat3_heap HR2.out) Try.underlying62 rfl irat) rfl ⟨⟨_, rfl, by rw [HF.out]; exact rat3_q (q := 0) HR2.out HZU.out HZD.out⟩, below_only HBb.out (rat3_only _ _ _ _ _) (by omega)⟩
end Go.Proofs.Ytlaphdlocchagaa

/- Ratios: the negative, the inverse. -/
namespace Go.Proofs.Ytlaphdlocchagaa
open Go.RowKit

end Go.Proofs.Ytlaphdlocchagaa
