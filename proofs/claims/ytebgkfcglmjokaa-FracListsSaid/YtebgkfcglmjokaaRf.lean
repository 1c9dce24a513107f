/- Fractions as they come: are they right? -/
import Derived.Test.YtebgkfcglmjokaaRe
namespace Go.Proofs.Ytebgkfcglmjokaa
open Go.RowKit

/-- A fraction as it comes: a sign, and any words. -/
def RawF (w : World) (v : Value) (b : Bool) (l m : List Nat) : Prop := ∃ u d, v = .agg #[.bool b, u, d] ∧ IsW w u l ∧ IsW w d m
theorem RawF.below {w w' : World} {v : Value} {b : Bool} {l m : List Nat} (h : RawF w v b l m) (hb : Below w.heap.size w w') : RawF w' v b l m := by
  obtain ⟨n, d, rfl, hn, hd⟩ := h
  exact ⟨n, d, rfl, hn.below hb, hd.below hb⟩
def normB (l : List Nat) : Bool := decide (Norm l)
def shortF (l m : List Nat) : Bool := decide (l.length + m.length ≤ 4096)
/-- Is it right? -/
def rightB (b : Bool) (l m : List Nat) : Bool := shortF l m && (normB l && (normB m && (!nilB m && (!(b && nilB l) && oneB (Nat.gcd (val l) (val m))))))

theorem trimmed_b {w : World} {v : Value} {l : List Nat} (h : IsW w v l) :
    Calls Try.prog 58 #[v] w fun e w' => e = .returned (.bool (normB l)) ∧ w = w' := trimmed_w h

set_option maxRecDepth 4000 in
set_option maxHeartbeats 1000000 in
theorem right_w {w : World} {v : Value} {b : Bool} {l m : List Nat} (hv : RawF w v b l m) :
    Calls Try.prog 14 #[v] w fun e w' => e = .returned (.bool (rightB b l m)) ∧ Below w.heap.size w w' := by
  obtain ⟨u, d, rfl, hu, hd⟩ := hv
  have HU := Lib.hid hu
  have HD := Lib.hid hd
  obtain ⟨ua, uc, rfl, u1, u2, u3, u4, u5⟩ := hu
  obtain ⟨da, dc, rfl, d1, d2, d3, d4, d5⟩ := hd
  clear u3 u4 u5 d3 d4 d5
  have HB0 : Hid (∀ o, Below w.heap.size w (w.alloc o)) := Lib.hid (fun o => (Below.refl _ _).alloc (Nat.le_refl _) o)
  by_cases h1 : l.length ≤ 4096
  · by_cases h2 : l.length + m.length ≤ 4096
    · have e1 : decide ((4096 : Int) < (l.length : Int)) = false := by simp; omega
      have e2 : decide ((4096 : Int) - (l.length : Int) < (m.length : Int)) = false := by simp; omega
      have HS : Hid (shortF l m = true) := Lib.hid (by simp [shortF, h2])
      go_enter Try.func14, Try.ntmps14
      go_wp2_with fail
      obtain ⟨w1, hw1⟩ : ∃ w1, w1 = w.alloc (Obj.cells #[Value.bool b, Value.slice ua l.length uc, Value.slice da m.length dc] 24) := ⟨_, rfl⟩
      rw [← hw1]
      have HB1 : Hid (Below w.heap.size w w1) := Lib.hid (by rw [hw1]; exact HB0.out _)
      have hb1 : w1.heap[w.heap.size]? = some (.cells #[Value.bool b, Value.slice ua l.length uc, Value.slice da m.length dc] 24 (0, 0)) := by rw [hw1]; exact heap_alloc_new w _
      have c0 : w1.cell? ⟨w.heap.size, 0, none⟩ = some (Value.bool b) := by rw [cell_of_row _ _ _ _ _ _ hb1]; rfl
      have c1 : w1.cell? ⟨w.heap.size, 1, none⟩ = some (Value.slice ua l.length uc) := by rw [cell_of_row _ _ _ _ _ _ hb1]; rfl
      have c2 : w1.cell? ⟨w.heap.size, 2, none⟩ = some (Value.slice da m.length dc) := by rw [cell_of_row _ _ _ _ _ _ hb1]; rfl
      clear hw1 hb1
      by_cases n1 : normB l = true
      · by_cases n2 : normB m = true
        · by_cases n3 : nilB m = true
          · have HR : Hid (rightB b l m = false) := Lib.hid (by unfold rightB; rw [n1, n2, n3, HS.out]; rfl)
            go_quiet (fail)
            go_wp2_with fail
            refine (trimmed_b ((HU.out.below HB1.out).drewN _)).mono ?_
            rintro en w2 ⟨rfl, rfl⟩
            go_wp2_with fail
            refine (trimmed_b ((HD.out.below HB1.out).drewN _)).mono ?_
            rintro en w2 ⟨rfl, rfl⟩
            go_wp2_with fail
            refine (isZero_v ((HD.out.below HB1.out).drewN _)).mono ?_
            rintro en w2 ⟨rfl, rfl⟩
            go_wp2_with fail
            go_ret
            exact ⟨by rw [HR.out]; rfl, below_drewN HB1.out _⟩
          · have n3' : nilB m = false := by simpa using n3
            clear n3
            have HG : Hid (∀ c : Bool, (b && nilB l) = c → rightB b l m = (!c && oneB (Nat.gcd (val l) (val m)))) := Lib.hid (fun c hc => by unfold rightB; rw [n1, n2, n3', HS.out, hc]; simp)
            have HL : Hid (l = digs (val l) ∧ m = digs (val m)) := Lib.hid ⟨(digs_val l HU.out.ws (by simpa [normB] using n1)).symm, (digs_val m HD.out.ws (by simpa [normB] using n2)).symm⟩
            cases b with
            | true =>
              by_cases n4 : nilB l = true
              · have HR : Hid (rightB true l m = false) := Lib.hid (by rw [HG.out true (by rw [n4]; rfl)]; rfl)
                go_quiet (fail)
                go_wp2_with fail
                refine (trimmed_b ((HU.out.below HB1.out).drewN _)).mono ?_
                rintro en w2 ⟨rfl, rfl⟩
                go_wp2_with fail
                refine (trimmed_b ((HD.out.below HB1.out).drewN _)).mono ?_
                rintro en w2 ⟨rfl, rfl⟩
                go_wp2_with fail
                refine (isZero_v ((HD.out.below HB1.out).drewN _)).mono ?_
                rintro en w2 ⟨rfl, rfl⟩
                go_wp2_with fail
                refine (isZero_v ((HU.out.below HB1.out).drewN _)).mono ?_
                rintro en w2 ⟨rfl, rfl⟩
                go_wp2_with fail
                go_ret
                exact ⟨by rw [HR.out]; rfl, below_drewN HB1.out _⟩
              · have n4' : nilB l = false := by simpa using n4
                clear n4
                have HR : Hid (rightB true l m = oneB (Nat.gcd (val l) (val m))) := Lib.hid (by rw [HG.out false (by rw [n4']; rfl)]; rfl)
                go_quiet (fail)
                go_wp2_with fail
                refine (trimmed_b ((HU.out.below HB1.out).drewN _)).mono ?_
                rintro en w2 ⟨rfl, rfl⟩
                go_wp2_with fail
                refine (trimmed_b ((HD.out.below HB1.out).drewN _)).mono ?_
                rintro en w2 ⟨rfl, rfl⟩
                go_wp2_with fail
                refine (isZero_v ((HD.out.below HB1.out).drewN _)).mono ?_
                rintro en w2 ⟨rfl, rfl⟩
                go_wp2_with fail
                refine (isZero_v ((HU.out.below HB1.out).drewN _)).mono ?_
                rintro en w2 ⟨rfl, rfl⟩
                go_wp2_with fail
                refine (gcd_w (x := val l) (y := val m) (HL.out.1 ▸ ((HU.out.below HB1.out).drewN _)) (HL.out.2 ▸ ((HD.out.below HB1.out).drewN _)) (by rw [← HL.out.1]; omega) (by rw [← HL.out.2]; omega)).mono ?_
                rintro en w3 ⟨⟨g, rfl, hg, hgo⟩, hbel3⟩
                have HGV := Lib.hid hg
                clear hg hgo
                go_wp2_with fail
                refine (isOne_w HGV.out).mono ?_
                rintro en w4 ⟨rfl, rfl⟩
                go_wp2_with fail
                go_ret
                exact ⟨by rw [HR.out]; rfl, below_trans (below_drewN HB1.out _) hbel3⟩
            | false =>
              have HR : Hid (rightB false l m = oneB (Nat.gcd (val l) (val m))) := Lib.hid (by rw [HG.out false rfl]; rfl)
              go_quiet (fail)
              go_wp2_with fail
              refine (trimmed_b ((HU.out.below HB1.out).drewN _)).mono ?_
              rintro en w2 ⟨rfl, rfl⟩
              go_wp2_with fail
              refine (trimmed_b ((HD.out.below HB1.out).drewN _)).mono ?_
              rintro en w2 ⟨rfl, rfl⟩
              go_wp2_with fail
              refine (isZero_v ((HD.out.below HB1.out).drewN _)).mono ?_
              rintro en w2 ⟨rfl, rfl⟩
              go_wp2_with fail
              refine (gcd_w (x := val l) (y := val m) (HL.out.1 ▸ ((HU.out.below HB1.out).drewN _)) (HL.out.2 ▸ ((HD.out.below HB1.out).drewN _)) (by rw [← HL.out.1]; omega) (by rw [← HL.out.2]; omega)).mono ?_
              rintro en w3 ⟨⟨g, rfl, hg, hgo⟩, hbel3⟩
              have HGV := Lib.hid hg
              clear hg hgo
              go_wp2_with fail
              refine (isOne_w HGV.out).mono ?_
              rintro en w4 ⟨rfl, rfl⟩
              go_wp2_with fail
              go_ret
              exact ⟨by rw [HR.out]; rfl, below_trans (below_drewN HB1.out _) hbel3⟩
        · have n2' : normB m = false := by simpa using n2
          have HR : Hid (rightB b l m = false) := Lib.hid (by unfold rightB; rw [n1, n2', HS.out]; rfl)
          clear n2
          go_quiet (fail)
          go_wp2_with fail
          refine (trimmed_b ((HU.out.below HB1.out).drewN _)).mono ?_
          rintro en w2 ⟨rfl, rfl⟩
          go_wp2_with fail
          refine (trimmed_b ((HD.out.below HB1.out).drewN _)).mono ?_
          rintro en w2 ⟨rfl, rfl⟩
          go_wp2_with fail
          go_ret
          exact ⟨by rw [HR.out]; rfl, below_drewN HB1.out _⟩
      · have n1' : normB l = false := by simpa using n1
        have HR : Hid (rightB b l m = false) := Lib.hid (by unfold rightB; rw [n1', HS.out]; rfl)
        clear n1
        go_quiet (fail)
        go_wp2_with fail
        refine (trimmed_b ((HU.out.below HB1.out).drewN _)).mono ?_
        rintro en w2 ⟨rfl, rfl⟩
        go_wp2_with fail
        go_ret
        exact ⟨by rw [HR.out]; rfl, below_drewN HB1.out _⟩
    · have e1 : decide ((4096 : Int) < (l.length : Int)) = false := by simp; omega
      have e2 : decide ((4096 : Int) - (l.length : Int) < (m.length : Int)) = true := by simp; omega
      have HS : Hid (rightB b l m = false) := Lib.hid (by unfold rightB; rw [show shortF l m = false by simp [shortF]; omega]; rfl)
      go_enter Try.func14, Try.ntmps14
      go_wp2_with fail
      obtain ⟨w1, hw1⟩ : ∃ w1, w1 = w.alloc (Obj.cells #[Value.bool b, Value.slice ua l.length uc, Value.slice da m.length dc] 24) := ⟨_, rfl⟩
      rw [← hw1]
      have HB1 : Hid (Below w.heap.size w w1) := Lib.hid (by rw [hw1]; exact HB0.out _)
      have hb1 : w1.heap[w.heap.size]? = some (.cells #[Value.bool b, Value.slice ua l.length uc, Value.slice da m.length dc] 24 (0, 0)) := by rw [hw1]; exact heap_alloc_new w _
      have c0 : w1.cell? ⟨w.heap.size, 0, none⟩ = some (Value.bool b) := by rw [cell_of_row _ _ _ _ _ _ hb1]; rfl
      have c1 : w1.cell? ⟨w.heap.size, 1, none⟩ = some (Value.slice ua l.length uc) := by rw [cell_of_row _ _ _ _ _ _ hb1]; rfl
      have c2 : w1.cell? ⟨w.heap.size, 2, none⟩ = some (Value.slice da m.length dc) := by rw [cell_of_row _ _ _ _ _ _ hb1]; rfl
      clear hw1 hb1
      go_quiet (fail)
      go_wp2_with fail
      go_ret
      exact ⟨by rw [HS.out]; rfl, below_drewN HB1.out _⟩
  · have e1 : decide ((4096 : Int) < (l.length : Int)) = true := by simp; omega
    have HS : Hid (rightB b l m = false) := Lib.hid (by unfold rightB; rw [show shortF l m = false by simp [shortF]; omega]; rfl)
    go_enter Try.func14, Try.ntmps14
    go_wp2_with fail
    obtain ⟨w1, hw1⟩ : ∃ w1, w1 = w.alloc (Obj.cells #[Value.bool b, Value.slice ua l.length uc, Value.slice da m.length dc] 24) := ⟨_, rfl⟩
    rw [← hw1]
    have HB1 : Hid (Below w.heap.size w w1) := Lib.hid (by rw [hw1]; exact HB0.out _)
    have hb1 : w1.heap[w.heap.size]? = some (.cells #[Value.bool b, Value.slice ua l.length uc, Value.slice da m.length dc] 24 (0, 0)) := by rw [hw1]; exact heap_alloc_new w _
    have c0 : w1.cell? ⟨w.heap.size, 0, none⟩ = some (Value.bool b) := by rw [cell_of_row _ _ _ _ _ _ hb1]; rfl
    have c1 : w1.cell? ⟨w.heap.size, 1, none⟩ = some (Value.slice ua l.length uc) := by rw [cell_of_row _ _ _ _ _ _ hb1]; rfl
    have c2 : w1.cell? ⟨w.heap.size, 2, none⟩ = some (Value.slice da m.length dc) := by rw [cell_of_row _ _ _ _ _ _ hb1]; rfl
    clear hw1 hb1
    go_quiet (fail)
    go_wp2_with fail
    go_ret
    exact ⟨by rw [HS.out]; rfl, below_drewN HB1.out _⟩
end Go.Proofs.Ytebgkfcglmjokaa
