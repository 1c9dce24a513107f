import Derived.Test.YtkkbmlkpgknhgaaGreatZ5
import Derived.Deep.DrawnRows
import Derived.Deep.DeepCutAuto
set_option maxRecDepth 100000
set_option maxHeartbeats 16000000
namespace Go.Proofs.YtkkbmlkpgknhgaaGreat
open Go.RowKit
variable {b c x : Bool} {d u v : Value} {l m : List Nat} {p : Rat} {q z : Int} {w w' : World} {y : Nat}
def m3q (w : World) (v : Value) (b : Bool) (l m : List Nat) : Prop := ∃ u d, v = .agg #[.bool b, u, d] ∧ IsW w u l ∧ IsW w d m
theorem m3q.below (h : m3q w v b l m) (hb : Below w.heap.size w w') : m3q w' v b l m := by
 obtain ⟨n, d, rfl, hn, hd⟩ := h
 exact ⟨n, d, rfl, hn.below hb, hd.below hb⟩
def b1q (l : List Nat) : Bool := decide (n8q l)
def s3q (l m : List Nat) : Bool := decide (l.length + m.length ≤ 4096)
def v4q (b : Bool) (l m : List Nat) : Bool := s3q l m && (b1q l && (b1q m && (!b8q m && (!(b && b8q l) && k7q (Nat.gcd (val l) (val m))))))

theorem f8q (h : IsW w v l) :
  Calls Tryz.prog 96 #[v] w fun e w' => e = .returned (.bool (b1q l)) ∧ w = w' := x1h h

theorem v7j (hv : m3q w v b l m) :
  Calls Tryz.prog 67 #[v] w fun e w' => e = .returned (.bool (v4q b l m)) ∧ Below w.heap.size w w' := by
 obtain ⟨u, d, rfl, hu, hd⟩ := hv
 have HU := hdd hu
 have HD := hdd hd
 obtain ⟨ua, uc, rfl, u1, u2, u3, u4, u5⟩ := hu
 obtain ⟨da, dc, rfl, d1, d2, d3, d4, d5⟩ := hd
 clear u3 u4 u5 d3 d4 d5
 have HB0 : Hi (∀ o, Below w.heap.size w (w.alloc o)) := hdd (fun o => (qb).alloc qm o)
 by_cases h1 : l.length ≤ 4096
 ·
  by_cases h2 : l.length + m.length ≤ 4096
  ·
   have e1 : decide ((4096 : Int) < (l.length : Int)) = false := by simp; omega
   have e2 : decide ((4096 : Int) - (l.length : Int) < (m.length : Int)) = false := by simp; omega
   have HS : Hi (s3q l m = true) := hdd (by simp [s3q, h2])
   go_enter Tryz.func67, Tryz.ntmps67
   go_wp2_with fail
   obtain ⟨w1, hw1⟩ := qx (w.alloc (Obj.cells #[.bool b, .slice ua l.length uc, .slice da m.length dc] 43))
   rw [← hw1]
   have HB1 : Hi (Below w.heap.size w w1) := hdd (by rw [hw1]; exact HB0.o _)
   have hb1 : w1.heap[w.heap.size]? = some (.cells #[.bool b, .slice ua l.length uc, .slice da m.length dc] 43 (0, 0)) := by rw [hw1]; exact heap_alloc_new w _
   have c0 : w1.cell? ⟨w.heap.size, 0, none⟩ = some (Value.bool b) := by rw [cell_of_row _ _ _ _ _ _ hb1]; rfl
   have c1 : w1.cell? ⟨w.heap.size, 1, none⟩ = some (Value.slice ua l.length uc) := by rw [cell_of_row _ _ _ _ _ _ hb1]; rfl
   have c2 : w1.cell? ⟨w.heap.size, 2, none⟩ = some (Value.slice da m.length dc) := by rw [cell_of_row _ _ _ _ _ _ hb1]; rfl
   clear hw1 hb1
   by_cases n1 : b1q l = true
   ·
    by_cases n2 : b1q m = true
    ·
     by_cases n3 : b8q m = true
     ·
      have HR : Hi (v4q b l m = false) := hdd (by unfold v4q; rw [n1, n2, n3, HS.o]; rfl)
      go_quiet (fail)
      go_wp2_with fail
      refine (f8q ((HU.o.below HB1.o).drewN _)).mono ?_
      rintro en w2 ⟨rfl, rfl⟩
      go_wp2_with fail
      refine (f8q ((HD.o.below HB1.o).drewN _)).mono ?_
      rintro en w2 ⟨rfl, rfl⟩
      go_wp2_with fail
      refine (t7q ((HD.o.below HB1.o).drewN _)).mono ?_
      rintro en w2 ⟨rfl, rfl⟩
      go_wp2_with fail
      go_ret
      exact ⟨by rw [HR.o]; rfl, q5q HB1.o _⟩
     ·
      have n3' : b8q m = false := by simpa using n3
      clear n3
      have HG : Hi (∀ c : Bool, (b && b8q l) = c → v4q b l m = (!c && k7q (Nat.gcd (val l) (val m)))) := hdd (fun c hc => by unfold v4q; rw [n1, n2, n3', HS.o, hc]; simp)
      have HL : Hi (l = q2q (val l) ∧ m = q2q (val m)) := hdd ⟨(r7q l HU.o.ws (by simpa [b1q] using n1)).symm, (r7q m HD.o.ws (by simpa [b1q] using n2)).symm⟩
      cases b with
      | true =>
       by_cases n4 : b8q l = true
       ·
        have HR : Hi (v4q true l m = false) := hdd (by rw [HG.o true (by rw [n4]; rfl)]; rfl)
        go_quiet (fail)
        go_wp2_with fail
        refine (f8q ((HU.o.below HB1.o).drewN _)).mono ?_
        rintro en w2 ⟨rfl, rfl⟩
        go_wp2_with fail
        refine (f8q ((HD.o.below HB1.o).drewN _)).mono ?_
        rintro en w2 ⟨rfl, rfl⟩
        go_wp2_with fail
        refine (t7q ((HD.o.below HB1.o).drewN _)).mono ?_
        rintro en w2 ⟨rfl, rfl⟩
        go_wp2_with fail
        refine (t7q ((HU.o.below HB1.o).drewN _)).mono ?_
        rintro en w2 ⟨rfl, rfl⟩
        go_wp2_with fail
        go_ret
        exact ⟨by rw [HR.o]; rfl, q5q HB1.o _⟩
       ·
        have n4' : b8q l = false := by simpa using n4
        clear n4
        have HR : Hi (v4q true l m = k7q (Nat.gcd (val l) (val m))) := hdd (by rw [HG.o false (by rw [n4']; rfl)]; rfl)
        go_quiet (fail)
        go_wp2_with fail
        refine (f8q ((HU.o.below HB1.o).drewN _)).mono ?_
        rintro en w2 ⟨rfl, rfl⟩
        go_wp2_with fail
        refine (f8q ((HD.o.below HB1.o).drewN _)).mono ?_
        rintro en w2 ⟨rfl, rfl⟩
        go_wp2_with fail
        refine (t7q ((HD.o.below HB1.o).drewN _)).mono ?_
        rintro en w2 ⟨rfl, rfl⟩
        go_wp2_with fail
        refine (t7q ((HU.o.below HB1.o).drewN _)).mono ?_
        rintro en w2 ⟨rfl, rfl⟩
        go_wp2_with fail
        refine (j3y (x := val l) (y := val m) (HL.o.1 ▸ ((HU.o.below HB1.o).drewN _)) (HL.o.2 ▸ ((HD.o.below HB1.o).drewN _)) (by rw [← HL.o.1]; omega) (by rw [← HL.o.2]; omega)).mono ?_
        rintro en w3 ⟨⟨g, rfl, hg, hgo⟩, hbel3⟩
        have HGV := hdd hg
        clear hg hgo
        go_wp2_with fail
        refine (p4q HGV.o).mono ?_
        rintro en w4 ⟨rfl, rfl⟩
        go_wp2_with fail
        go_ret
        exact ⟨by rw [HR.o]; rfl, q0q (q5q HB1.o _) hbel3⟩
      | false =>
       have HR : Hi (v4q false l m = k7q (Nat.gcd (val l) (val m))) := hdd (by rw [HG.o false rfl]; rfl)
       go_quiet (fail)
       go_wp2_with fail
       refine (f8q ((HU.o.below HB1.o).drewN _)).mono ?_
       rintro en w2 ⟨rfl, rfl⟩
       go_wp2_with fail
       refine (f8q ((HD.o.below HB1.o).drewN _)).mono ?_
       rintro en w2 ⟨rfl, rfl⟩
       go_wp2_with fail
       refine (t7q ((HD.o.below HB1.o).drewN _)).mono ?_
       rintro en w2 ⟨rfl, rfl⟩
       go_wp2_with fail
       refine (j3y (x := val l) (y := val m) (HL.o.1 ▸ ((HU.o.below HB1.o).drewN _)) (HL.o.2 ▸ ((HD.o.below HB1.o).drewN _)) (by rw [← HL.o.1]; omega) (by rw [← HL.o.2]; omega)).mono ?_
       rintro en w3 ⟨⟨g, rfl, hg, hgo⟩, hbel3⟩
       have HGV := hdd hg
       clear hg hgo
       go_wp2_with fail
       refine (p4q HGV.o).mono ?_
       rintro en w4 ⟨rfl, rfl⟩
       go_wp2_with fail
       go_ret
       exact ⟨by rw [HR.o]; rfl, q0q (q5q HB1.o _) hbel3⟩
    ·
     have n2' : b1q m = false := by simpa using n2
     have HR : Hi (v4q b l m = false) := hdd (by unfold v4q; rw [n1, n2', HS.o]; rfl)
     clear n2
     go_quiet (fail)
     go_wp2_with fail
     refine (f8q ((HU.o.below HB1.o).drewN _)).mono ?_
     rintro en w2 ⟨rfl, rfl⟩
     go_wp2_with fail
     refine (f8q ((HD.o.below HB1.o).drewN _)).mono ?_
     rintro en w2 ⟨rfl, rfl⟩
     go_wp2_with fail
     go_ret
     exact ⟨by rw [HR.o]; rfl, q5q HB1.o _⟩
   ·
    have n1' : b1q l = false := by simpa using n1
    have HR : Hi (v4q b l m = false) := hdd (by unfold v4q; rw [n1', HS.o]; rfl)
    clear n1
    go_quiet (fail)
    go_wp2_with fail
    refine (f8q ((HU.o.below HB1.o).drewN _)).mono ?_
    rintro en w2 ⟨rfl, rfl⟩
    go_wp2_with fail
    go_ret
    exact ⟨by rw [HR.o]; rfl, q5q HB1.o _⟩
  ·
   have e1 : decide ((4096 : Int) < (l.length : Int)) = false := by simp; omega
   have e2 : decide ((4096 : Int) - (l.length : Int) < (m.length : Int)) = true := by simp; omega
   have HS : Hi (v4q b l m = false) := hdd (by unfold v4q; rw [show s3q l m = false by simp [s3q]; omega]; rfl)
   go_enter Tryz.func67, Tryz.ntmps67
   go_wp2_with fail
   obtain ⟨w1, hw1⟩ := qx (w.alloc (Obj.cells #[.bool b, .slice ua l.length uc, .slice da m.length dc] 43))
   rw [← hw1]
   have HB1 : Hi (Below w.heap.size w w1) := hdd (by rw [hw1]; exact HB0.o _)
   have hb1 : w1.heap[w.heap.size]? = some (.cells #[.bool b, .slice ua l.length uc, .slice da m.length dc] 43 (0, 0)) := by rw [hw1]; exact heap_alloc_new w _
   have c0 : w1.cell? ⟨w.heap.size, 0, none⟩ = some (Value.bool b) := by rw [cell_of_row _ _ _ _ _ _ hb1]; rfl
   have c1 : w1.cell? ⟨w.heap.size, 1, none⟩ = some (Value.slice ua l.length uc) := by rw [cell_of_row _ _ _ _ _ _ hb1]; rfl
   have c2 : w1.cell? ⟨w.heap.size, 2, none⟩ = some (Value.slice da m.length dc) := by rw [cell_of_row _ _ _ _ _ _ hb1]; rfl
   clear hw1 hb1
   go_quiet (fail)
   go_wp2_with fail
   go_ret
   exact ⟨by rw [HS.o]; rfl, q5q HB1.o _⟩
 ·
  have e1 : decide ((4096 : Int) < (l.length : Int)) = true := by simp; omega
  have HS : Hi (v4q b l m = false) := hdd (by unfold v4q; rw [show s3q l m = false by simp [s3q]; omega]; rfl)
  go_enter Tryz.func67, Tryz.ntmps67
  go_wp2_with fail
  obtain ⟨w1, hw1⟩ := qx (w.alloc (Obj.cells #[.bool b, .slice ua l.length uc, .slice da m.length dc] 43))
  rw [← hw1]
  have HB1 : Hi (Below w.heap.size w w1) := hdd (by rw [hw1]; exact HB0.o _)
  have hb1 : w1.heap[w.heap.size]? = some (.cells #[.bool b, .slice ua l.length uc, .slice da m.length dc] 43 (0, 0)) := by rw [hw1]; exact heap_alloc_new w _
  have c0 : w1.cell? ⟨w.heap.size, 0, none⟩ = some (Value.bool b) := by rw [cell_of_row _ _ _ _ _ _ hb1]; rfl
  have c1 : w1.cell? ⟨w.heap.size, 1, none⟩ = some (Value.slice ua l.length uc) := by rw [cell_of_row _ _ _ _ _ _ hb1]; rfl
  have c2 : w1.cell? ⟨w.heap.size, 2, none⟩ = some (Value.slice da m.length dc) := by rw [cell_of_row _ _ _ _ _ _ hb1]; rfl
  clear hw1 hb1
  go_quiet (fail)
  go_wp2_with fail
  go_ret
  exact ⟨by rw [HS.o]; rfl, q5q HB1.o _⟩
def v1q (b : Bool) (l m : List Nat) : Rat := if v4q b l m = true then mkRat (if b then -(val l : Int) else val l) (val m) else 0

theorem v3y (h : v4q b l m = true) : l.length + m.length ≤ 4096 ∧ n8q l ∧ n8q m ∧ m ≠ [] ∧ (b = true → l ≠ []) ∧ Nat.gcd (val l) (val m) = 1 := by
 unfold v4q s3q b1q b8q k7q at h
 simp only [Bool.and_eq_true, decide_eq_true_eq, Bool.not_eq_true', decide_eq_false_iff_not] at h
 obtain ⟨h1, h2, h3, h4, h5, h6⟩ := h
 refine ⟨h1, h2, h3, fun e => h4 (by rw [e]; rfl), fun hb e => ?_, h6⟩
 subst hb; subst e
 simp at h5

theorem i0q (hl : Ws l) (hm : Ws m) (h : v4q b l m = true) :
  l = q2q (v1q b l m).num.natAbs ∧ m = q2q (v1q b l m).den ∧ b = decide ((v1q b l m).num < 0) ∧ j5q (v1q b l m) ≤ 4096 := by
 obtain ⟨h1, h2, h3, h4, h5, h6⟩ := v3y h
 have e1 := r7q l hl h2
 have e2 := r7q m hm h3
 have hm0 : val m ≠ 0 := fun e => h4 (by rw [← e2, e, y7q])
 have hna : (if b then -(val l : Int) else (val l : Int)).natAbs = val l := by cases b <;> simp
 have hn : (v1q b l m).num = if b then -(val l : Int) else val l := by
  unfold v1q
  rw [if_pos h, j7z hm0, hna, h6]; simp
 have hd : (v1q b l m).den = val m := by
  unfold v1q
  rw [if_pos h, q1w hm0, hna, h6]; simp
 have hl2 : l = q2q (v1q b l m).num.natAbs := by rw [hn, hna, e1]
 have hm2 : m = q2q (v1q b l m).den := by rw [hd, e2]
 refine ⟨hl2, hm2, ?_, by unfold j5q; rw [← hl2, ← hm2]; exact h1⟩
 rw [hn]
 cases b with
 | false => simp
 | true =>
  have : val l ≠ 0 := fun e => h5 rfl (by rw [← e1, e, y7q])
  simp; omega

theorem p3q (hl : Ws l) (hm : Ws m) : j5q (v1q b l m) ≤ 4096 := by
 by_cases h : v4q b l m = true
 ·
  exact (i0q hl hm h).2.2.2
 ·
  unfold v1q; rw [if_neg h]
  have e1 : q2q (0 : Rat).num.natAbs = [] := by show q2q 0 = []; exact y7q
  have e2 : q2q (0 : Rat).den = [1] := by show q2q 1 = [1]; unfold q2q; simp [q2q]
  unfold j5q; rw [e1, e2]; simp

theorem q6x (hv : m3q w v b l m) :
  Calls Tryz.prog 56 #[v] w fun e w' => (∃ r, e = .returned r ∧ g0q w' r (v1q b l m)) ∧ Below w.heap.size w w' := by
 have HV := hdd hv
 obtain ⟨u, d, rfl, hu, hd⟩ := hv
 obtain ⟨ua, un, uc, hue⟩ := hu.form
 subst hue
 obtain ⟨da, dn, dc, hde⟩ := hd.form
 subst hde
 have HU := hdd hu
 have HD := hdd hd
 clear hu hd
 have HB0 : Hi (∀ o p, Below w.heap.size w ((w.alloc o).alloc p)) := hdd (fun o p => ((qb).alloc qm o).alloc (by simp) p)
 by_cases h : v4q b l m = true
 ·
  have HRT := hdd (i0q HU.o.ws HD.o.ws h)
  go_enter Tryz.func56, Tryz.ntmps56
  go_wp2_with fail
  refine (v7j (HV.o.below (HB0.o _ _))).mono ?_
  rintro en w1 ⟨rfl, hbel1⟩
  have HB1 := hdd (q0q (HB0.o _ _) hbel1)
  have hb1 : w1.heap[w.heap.size]? = some (.cells #[.bool b, .slice ua un uc, .slice da dn dc] 43 (0, 0)) := (hbel1.block _ (by simp; omega)).trans (heap_alloc2_old w _ _)
  have hb2 : w1.heap[w.heap.size + 1]? = some (.cells #[.slice none 0 0, .bool false, .slice none 0 0] 89 (0, 0)) := (hbel1.block _ (by simp)).trans (heap_alloc2_new w _ _)
  have c0 : w1.cell? ⟨w.heap.size, 0, none⟩ = some (Value.bool b) := by rw [cell_of_row _ _ _ _ _ _ hb1]; rfl
  have c1 : w1.cell? ⟨w.heap.size, 1, none⟩ = some (Value.slice ua un uc) := by rw [cell_of_row _ _ _ _ _ _ hb1]; rfl
  have c2 : w1.cell? ⟨w.heap.size, 2, none⟩ = some (Value.slice da dn dc) := by rw [cell_of_row _ _ _ _ _ _ hb1]; rfl
  have r0 : w1.cell? ⟨w.heap.size + 1, 0, none⟩ = some (Value.slice none 0 0) := by rw [cell_of_row _ _ _ _ _ _ hb2]; rfl
  have r1 : w1.cell? ⟨w.heap.size + 1, 1, none⟩ = some (Value.bool false) := by rw [cell_of_row _ _ _ _ _ _ hb2]; rfl
  have r2 : w1.cell? ⟨w.heap.size + 1, 2, none⟩ = some (Value.slice none 0 0) := by rw [cell_of_row _ _ _ _ _ _ hb2]; rfl
  have f0 := frozen_of_row _ _ 0 _ _ hb2
  have f1 := frozen_of_row _ _ 1 _ _ hb2
  have f2 := frozen_of_row _ _ 2 _ _ hb2
  have HB2 := hdd hb2
  clear hb1 hb2 hbel1
  go_wp2_with fail
  have h9 := s2q (q := v1q b l m) HB2.o (u := Value.slice ua un uc) (d := Value.slice da dn dc) (by rw [← HRT.o.1]; exact HU.o.below HB1.o) (by rw [← HRT.o.2.1]; exact HD.o.below HB1.o)
  rw [← HRT.o.2.2.1] at h9
  exact bodyPost_ret (results_cell_row rfl _ _ (w.heap.size + 1) _ _ _ _ rfl (b0q HB2.o) Tryz.underlying89 rfl i8q) rfl ⟨⟨_, rfl, h9⟩, q4q HB1.o (g6q _ _ _ _ _) (by omega)⟩
 ·
  have h' : v4q b l m = false := by simpa using h
  have HF : Hi (v1q b l m = 0) := hdd (by unfold v1q; rw [if_neg h])
  clear h
  go_enter Tryz.func56, Tryz.ntmps56
  go_wp2_with fail
  refine (v7j (HV.o.below (HB0.o _ _))).mono ?_
  rintro en w1 ⟨rfl, hbel1⟩
  have HB1 := hdd (q0q (HB0.o _ _) hbel1)
  have hb2 : w1.heap[w.heap.size + 1]? = some (.cells #[.slice none 0 0, .bool false, .slice none 0 0] 89 (0, 0)) := (hbel1.block _ (by simp)).trans (heap_alloc2_new w _ _)
  have HB2 := hdd hb2
  clear hb2 hbel1
  go_wp2_with fail
  refine z7y.mono ?_
  rintro en w2 ⟨⟨zv, rfl, zu, zd, rfl, hzu, hzd⟩, hbel2⟩
  obtain ⟨za, zn, zc, hze⟩ := hzu.form
  subst hze
  obtain ⟨ya, yn, yc, hye⟩ := hzd.form
  subst hye
  have hR2 := (hbel2.block _ (lt_of_block HB2.o)).trans HB2.o
  have HBb := hdd (q0q HB1.o hbel2)
  have HZU := hdd hzu
  have HZD := hdd hzd
  have r0 : w2.cell? ⟨w.heap.size + 1, 0, none⟩ = some (Value.slice none 0 0) := by rw [cell_of_row _ _ _ _ _ _ hR2]; rfl
  have r1 : w2.cell? ⟨w.heap.size + 1, 1, none⟩ = some (Value.bool false) := by rw [cell_of_row _ _ _ _ _ _ hR2]; rfl
  have r2 : w2.cell? ⟨w.heap.size + 1, 2, none⟩ = some (Value.slice none 0 0) := by rw [cell_of_row _ _ _ _ _ _ hR2]; rfl
  have f0 := frozen_of_row _ _ 0 _ _ hR2
  have f1 := frozen_of_row _ _ 1 _ _ hR2
  have f2 := frozen_of_row _ _ 2 _ _ hR2
  have HR2 := hdd hR2
  clear hR2 hzu hzd hbel2
  go_wp2_with fail
  exact bodyPost_ret (results_cell_row rfl _ _ (w.heap.size + 1) _ _ _ _ rfl (b0q HR2.o) Tryz.underlying89 rfl i8q) rfl ⟨⟨_, rfl, by rw [HF.o]; exact s2q (q := 0) HR2.o HZU.o HZD.o⟩, q4q HBb.o (g6q _ _ _ _ _) (by omega)⟩
end Go.Proofs.YtkkbmlkpgknhgaaGreat
namespace Go.Proofs.YtkkbmlkpgknhgaaGreat
open Go.RowKit
attribute [local go_sem ↓] Go.wp_at_zero Go.wp_at_succ
variable {b c x : Bool} {d u v : Value} {l m : List Nat} {p : Rat} {q z : Int} {w w' : World} {y : Nat}
theorem l5q (z : Int) (g : Nat) : (z / (g : Int)).natAbs ≤ z.natAbs := Int.natAbs_ediv_le_natAbs z g

theorem z3j (hu : IsW w u (q2q z.natAbs)) (hb : b = decide (z < 0)) (hd : IsW w d (q2q y)) (hy : 0 < y) (hq : z = q * y) (hl : (q2q z.natAbs).length < 1073741824) (hx : x = decide (q < 0)) :
  Calls Tryz.prog 156 #[.agg #[u, .bool b], d] w fun e w' => (∃ r, e = .returned (.agg #[r, .bool x]) ∧ IsW w' r (q2q q.natAbs)) ∧ Below w.heap.size w w' := by
 subst hb; subst hx
 refine (v0y ⟨_, rfl, hu⟩ hd hy hq hl).mono ?_
 rintro e w' ⟨⟨r, rfl, u', rfl, h⟩, hb⟩
 exact ⟨⟨u', rfl, h⟩, hb⟩
theorem v7x (hu : IsW w u (q2q z.natAbs)) (hb : b = decide (z < 0)) (hd : IsW w d (q2q y)) (hl : (q2q z.natAbs).length + (q2q y).length ≤ 536870912) (hq : q = z * y) (hx : x = decide (q < 0)) :
  Calls Tryz.prog 154 #[.agg #[u, .bool b], d] w fun e w' => (∃ r, e = .returned (.agg #[r, .bool x]) ∧ IsW w' r (q2q q.natAbs)) ∧ Below w.heap.size w w' := by
 subst hb; subst hx; subst hq
 refine (g3x ⟨_, rfl, hu⟩ hd hl).mono ?_
 rintro e w' ⟨⟨r, rfl, u', rfl, h⟩, hb⟩
 exact ⟨⟨u', rfl, h⟩, hb⟩
theorem g4w {y : Int} (hu : IsW w u (q2q z.natAbs)) (hb : b = decide (z < 0)) (hd : IsW w d (q2q y.natAbs)) (hc : c = decide (y < 0)) (hl : (q2q z.natAbs).length + (q2q y.natAbs).length ≤ 536870912) (hq : q = z * y) (hx : x = decide (q < 0)) :
  Calls Tryz.prog 158 #[.agg #[u, .bool b], .agg #[d, .bool c]] w fun e w' => (∃ r, e = .returned (.agg #[r, .bool x]) ∧ IsW w' r (q2q q.natAbs)) ∧ Below w.heap.size w w' := by
 subst hb; subst hc; subst hx; subst hq
 refine (g4k ⟨_, rfl, hu⟩ ⟨_, rfl, hd⟩ hl).mono ?_
 rintro e w' ⟨⟨r, rfl, u', rfl, h⟩, hb⟩
 exact ⟨⟨u', rfl, h⟩, hb⟩
theorem g8y {y : Int} (hu : IsW w u (q2q z.natAbs)) (hb : b = decide (z < 0)) (hd : IsW w d (q2q y.natAbs)) (hc : c = decide (y < 0)) (hl : (q2q z.natAbs).length < 1073741824) (hl2 : (q2q y.natAbs).length < 1073741824) (hq : q = z + y) (hx : x = decide (q < 0)) :
  Calls Tryz.prog 155 #[.agg #[u, .bool b], .agg #[d, .bool c]] w fun e w' => (∃ r, e = .returned (.agg #[r, .bool x]) ∧ IsW w' r (q2q q.natAbs)) ∧ Below w.heap.size w w' := by
 subst hb; subst hc; subst hx; subst hq
 refine (g8z ⟨_, rfl, hu⟩ ⟨_, rfl, hd⟩ hl hl2).mono ?_
 rintro e w' ⟨⟨r, rfl, u', rfl, h⟩, hb⟩
 exact ⟨⟨u', rfl, h⟩, hb⟩

theorem x7z {q : Rat} (hv : g0q w v q) (hd : g0q w d p) (hlen : j5q q + j5q p ≤ 536870912) :
  Calls Tryz.prog 133 #[v, d] w fun e w' => (∃ r, e = .returned r ∧ g0q w' r (q * p)) ∧ Below w.heap.size w w' := by
 obtain ⟨u1, d1, rfl, hu1, hd1⟩ := hv
 obtain ⟨u2, d2, rfl, hu2, hd2⟩ := hd
 obtain ⟨ua, un, uc, hue⟩ := hu1.form
 subst hue
 obtain ⟨da, dn, dc, hde⟩ := hd1.form
 subst hde
 obtain ⟨va, vn, vc, hve⟩ := hu2.form
 subst hve
 obtain ⟨ea, en, ec, hee⟩ := hd2.form
 subst hee
 have HU := hdd hu1
 have HD := hdd hd1
 have HV := hdd hu2
 have HE := hdd hd2
 have HL : Hi ((q2q q.num.natAbs).length + (q2q q.den).length + ((q2q p.num.natAbs).length + (q2q p.den).length) ≤ 536870912) := hdd hlen
 clear hu1 hd1 hu2 hd2 hlen
 obtain ⟨b, hb⟩ := qx (decide (q.num < 0))
 obtain ⟨c, hc⟩ := qx (decide (p.num < 0))
 have HBQ := hdd hb
 have HCQ := hdd hc
 rw [← hb, ← hc]
 obtain ⟨g, hg⟩ := qx (Nat.gcd q.num.natAbs p.den)
 obtain ⟨h, hh⟩ := qx (Nat.gcd p.num.natAbs q.den)
 have HG := hdd hg
 have HH := hdd hh
 have hg0 : 0 < g := by rw [hg]; exact Nat.gcd_pos_of_pos_right _ p.den_pos
 have hh0 : 0 < h := by rw [hh]; exact Nat.gcd_pos_of_pos_right _ q.den_pos
 obtain ⟨n1, hn1⟩ := qx (q.num / (g : Int))
 obtain ⟨n2, hn2⟩ := qx (p.num / (h : Int))
 have HN1 : Hi (q.num = n1 * (g : Int)) := hdd (by rw [hn1, hg]; exact (Int.ediv_mul_cancel (j0j _ _)).symm)
 have HN2 : Hi (p.num = n2 * (h : Int)) := hdd (by rw [hn2, hh]; exact (Int.ediv_mul_cancel (j0j _ _)).symm)
 have HNN : Hi ((q * p).num = n1 * n2) := hdd (by rw [hn1, hn2, hg, hh]; exact v6x q p)
 have HDD : Hi ((q * p).den = q.den / h * (p.den / g)) := hdd (by rw [hg, hh]; exact v6v q p)
 have HL1 : Hi ((q2q n1.natAbs).length ≤ (q2q q.num.natAbs).length) := hdd (z6q (by rw [hn1]; exact l5q _ _))
 have HL2 : Hi ((q2q n2.natAbs).length ≤ (q2q p.num.natAbs).length) := hdd (z6q (by rw [hn2]; exact l5q _ _))
 have HL3 : Hi ((q2q (q.den / h)).length ≤ (q2q q.den).length) := hdd (z6q (Nat.div_le_self _ _))
 have HL4 : Hi ((q2q (p.den / g)).length ≤ (q2q p.den).length) := hdd (z6q (Nat.div_le_self _ _))
 obtain ⟨x1, hx1⟩ := qx (decide (n1 < 0))
 obtain ⟨x2, hx2⟩ := qx (decide (n2 < 0))
 obtain ⟨x3, hx3⟩ := qx (decide (n1 * n2 < 0))
 have HX1 := hdd hx1
 have HX2 := hdd hx2
 have HX3 := hdd hx3
 clear hb hc hg hh hn1 hn2 hx1 hx2 hx3
 go_enter Tryz.func133, Tryz.ntmps133
 go_wp2_with fail
 obtain ⟨w1, hw1⟩ := qx (((w.alloc (Obj.cells #[.slice ua un uc, .bool b, .slice da dn dc] 89)).alloc (Obj.cells #[.slice va vn vc, .bool c, .slice ea en ec] 89)).alloc (Obj.cells #[.slice none 0 0, .bool false, .slice none 0 0] 89))
 rw [← hw1]
 have HB1 : Hi (Below w.heap.size w w1) := hdd (by rw [hw1]; exact (((qb).alloc qm _).alloc (by simp) _).alloc (by simp; omega) _)
 have HX : Hi (w1.heap[w.heap.size]? = some (.cells #[.slice ua un uc, .bool b, .slice da dn dc] 89 (0, 0))) := hdd (by rw [hw1]; exact p8q w _ _ _)
 have HY : Hi (w1.heap[w.heap.size + 1]? = some (.cells #[.slice va vn vc, .bool c, .slice ea en ec] 89 (0, 0))) := hdd (by rw [hw1]; exact p9q w _ _ _)
 have HR : Hi (w1.heap[w.heap.size + 2]? = some (.cells #[.slice none 0 0, .bool false, .slice none 0 0] 89 (0, 0))) := hdd (by rw [hw1]; exact h3q w _ _ _)
 have c0 : w1.cell? ⟨w.heap.size, 0, none⟩ = some (Value.slice ua un uc) := by rw [cell_of_row _ _ _ _ _ _ HX.o]; rfl
 have c1 : w1.cell? ⟨w.heap.size, 1, none⟩ = some (Value.bool b) := by rw [cell_of_row _ _ _ _ _ _ HX.o]; rfl
 have c2 : w1.cell? ⟨w.heap.size, 2, none⟩ = some (Value.slice da dn dc) := by rw [cell_of_row _ _ _ _ _ _ HX.o]; rfl
 have e0 : w1.cell? ⟨w.heap.size + 1, 0, none⟩ = some (Value.slice va vn vc) := by rw [cell_of_row _ _ _ _ _ _ HY.o]; rfl
 have e1 : w1.cell? ⟨w.heap.size + 1, 1, none⟩ = some (Value.bool c) := by rw [cell_of_row _ _ _ _ _ _ HY.o]; rfl
 have e2 : w1.cell? ⟨w.heap.size + 1, 2, none⟩ = some (Value.slice ea en ec) := by rw [cell_of_row _ _ _ _ _ _ HY.o]; rfl
 clear hw1
 have HC1 := hdd (j3y (HU.o.below HB1.o).drew (HE.o.below HB1.o).drew (by have := HL.o; omega) (by have := HL.o; omega))
 have HC2 := hdd (fun w' (hb : Below w1.drew.heap.size w1.drew w') => j3y ((HV.o.below HB1.o).drew.below hb) ((HD.o.below HB1.o).drew.below hb) (by have := HL.o; omega) (by have := HL.o; omega))
 rw [← HG.o] at HC1
 go_region_held3 (fun w' => w'.cell? ⟨w.heap.size, 0, none⟩ = some (.slice ua un uc) ∧ w'.cell? ⟨w.heap.size, 1, none⟩ = some (.bool b) ∧ w'.cell? ⟨w.heap.size, 2, none⟩ = some (.slice da dn dc) ∧ w'.cell? ⟨w.heap.size + 1, 0, none⟩ = some (.slice va vn vc) ∧ w'.cell? ⟨w.heap.size + 1, 1, none⟩ = some (.bool c) ∧ w'.cell? ⟨w.heap.size + 1, 2, none⟩ = some (.slice ea en ec))
  (((try dsimp only); refine ⟨?_, ?_, ?_, ?_, ?_, ?_⟩ <;> (first | (refine q3q ‹Below _ _ _› ?_; first | assumption | (simp [*]; done)) | go_keep)))
  (first | (go_at_call_of 98 (Value.slice ua un uc); refine HC1.o.mono ?_; rintro en w4 ⟨⟨gv, rfl, hgv, hgo⟩, hbel4⟩; obtain ⟨ga, gn, gc, hge⟩ := hgv.form; subst hge) | (go_at_call 98; refine (HC2.o _ hbel4).mono ?_; rintro en w5 ⟨⟨hv, rfl, hhv, hho⟩, hbel5⟩; obtain ⟨ia, in_, ic, hie⟩ := hhv.form; subst hie))
 have HBA : Hi (Below w1.heap.size w1 w5) := hdd (q0q (u2q hbel4) hbel5)
 have HB5 := hdd (q0q HB1.o HBA.o)
 have HX5 : Hi (w5.heap[w.heap.size]? = some (.cells #[.slice ua un uc, .bool b, .slice da dn dc] 89 (0, 0))) := hdd ((HBA.o.block _ (lt_of_block HX.o)).trans HX.o)
 have HY5 : Hi (w5.heap[w.heap.size + 1]? = some (.cells #[.slice va vn vc, .bool c, .slice ea en ec] 89 (0, 0))) := hdd ((HBA.o.block _ (lt_of_block HY.o)).trans HY.o)
 have HR5 : Hi (w5.heap[w.heap.size + 2]? = some (.cells #[.slice none 0 0, .bool false, .slice none 0 0] 89 (0, 0))) := hdd ((HBA.o.block _ (lt_of_block HR.o)).trans HR.o)
 have HGV := hdd (hgv.below hbel5)
 have HHV : Hi (IsW w5 (Value.slice ia in_ ic) (q2q h)) := hdd (by rw [HH.o]; exact hhv)
 clear c0 c1 c2 e0 e1 e2 hgv hgo hhv hho hbel4 hbel5
 have c0 : w5.cell? ⟨w.heap.size, 0, none⟩ = some (Value.slice ua un uc) := by rw [cell_of_row _ _ _ _ _ _ HX5.o]; rfl
 have c1 : w5.cell? ⟨w.heap.size, 1, none⟩ = some (Value.bool b) := by rw [cell_of_row _ _ _ _ _ _ HX5.o]; rfl
 have c2 : w5.cell? ⟨w.heap.size, 2, none⟩ = some (Value.slice da dn dc) := by rw [cell_of_row _ _ _ _ _ _ HX5.o]; rfl
 have e0 : w5.cell? ⟨w.heap.size + 1, 0, none⟩ = some (Value.slice va vn vc) := by rw [cell_of_row _ _ _ _ _ _ HY5.o]; rfl
 have e1 : w5.cell? ⟨w.heap.size + 1, 1, none⟩ = some (Value.bool c) := by rw [cell_of_row _ _ _ _ _ _ HY5.o]; rfl
 have e2 : w5.cell? ⟨w.heap.size + 1, 2, none⟩ = some (Value.slice ea en ec) := by rw [cell_of_row _ _ _ _ _ _ HY5.o]; rfl
 have R0 : Hi (∀ o v, (#[Value.slice none 0 0, Value.bool false, Value.slice none 0 0] : Array Value)[o]? = some v → ∀ w', Below w5.drew.heap.size w5.drew w' → w'.cell? ⟨w.heap.size + 2, o, none⟩ = some v ∧ w'.frozen? ⟨w.heap.size + 2, o, none⟩ = false) :=
  hdd (fun o v h w' hb => by
   have h9 : w'.heap[w.heap.size + 2]? = some (.cells #[.slice none 0 0, .bool false, .slice none 0 0] 89 (0, 0)) := (hb.block _ (lt_of_block HR5.o)).trans HR5.o
   exact ⟨by rw [cell_of_row _ _ _ _ _ _ h9]; exact h, frozen_of_row _ _ _ _ _ h9⟩)
 have R1 : Hi (∀ o v, (#[Value.slice ua un uc, Value.bool b, Value.slice da dn dc] : Array Value)[o]? = some v → ∀ w', Below w5.drew.heap.size w5.drew w' → w'.cell? ⟨w.heap.size, o, none⟩ = some v) :=
  hdd (fun o v h w' hb => by rw [cell_of_row _ _ _ _ _ _ ((hb.block _ (lt_of_block HX5.o)).trans HX5.o)]; exact h)
 have R2 : Hi (∀ o v, (#[Value.slice va vn vc, Value.bool c, Value.slice ea en ec] : Array Value)[o]? = some v → ∀ w', Below w5.drew.heap.size w5.drew w' → w'.cell? ⟨w.heap.size + 1, o, none⟩ = some v) :=
  hdd (fun o v h w' hb => by rw [cell_of_row _ _ _ _ _ _ ((hb.block _ (lt_of_block HY5.o)).trans HY5.o)]; exact h)
 have HC3 := hdd (z3j (w := w5.drew) (x := x1) (HU.o.below HB5.o).drew HBQ.o HGV.o.drew hg0 HN1.o (by have := HL.o; omega) HX1.o)
 have HC4 := hdd (fun w' (hb : Below w5.drew.heap.size w5.drew w') => z3j (w := w') (x := x2) ((HV.o.below HB5.o).drew.below hb) HCQ.o (HHV.o.drew.below hb) hh0 HN2.o (by have := HL.o; omega) HX2.o)
 have HC5 := hdd (fun w' u1 u2 (h1 : IsW w' u1 (q2q n1.natAbs)) (h2 : IsW w' u2 (q2q n2.natAbs)) => g4w (w := w') (u := u1) (d := u2) h1 HX1.o h2 HX2.o (by have := HL.o; have := HL1.o; have := HL2.o; omega) rfl HX3.o)
 have HC6 := hdd (fun w' (hb : Below w5.drew.heap.size w5.drew w') => q6v (w := w') ((HD.o.below HB5.o).drew.below hb) (HHV.o.drew.below hb) hh0 (by have := HL.o; omega))
 have HC7 := hdd (fun w' (hb : Below w5.drew.heap.size w5.drew w') => q6v (w := w') ((HE.o.below HB5.o).drew.below hb) (HGV.o.drew.below hb) hg0 (by have := HL.o; omega))
 have HC8 := hdd (fun w' u1 u2 (h1 : IsW w' u1 (q2q (q.den / h))) (h2 : IsW w' u2 (q2q (p.den / g))) => j9k (w := w') (u := u1) (v := u2) h1 h2 (by have := HL.o; have := HL3.o; have := HL4.o; omega))
 go_wp2_with fail
 go_region_held3 (fun w' => w'.cell? ⟨w.heap.size, 0, none⟩ = some (.slice ua un uc) ∧ w'.cell? ⟨w.heap.size, 1, none⟩ = some (.bool b) ∧ w'.cell? ⟨w.heap.size, 2, none⟩ = some (.slice da dn dc) ∧ w'.cell? ⟨w.heap.size + 1, 0, none⟩ = some (.slice va vn vc) ∧ w'.cell? ⟨w.heap.size + 1, 1, none⟩ = some (.bool c) ∧ w'.cell? ⟨w.heap.size + 1, 2, none⟩ = some (.slice ea en ec))
  (((try dsimp only); refine ⟨?_, ?_, ?_, ?_, ?_, ?_⟩ <;> (first | exact R1.o _ _ rfl _ (by assumption) | exact R2.o _ _ rfl _ (by assumption) | (rw [World.cell?_setCell_far _ _ _ _ (by dsimp only; omega), World.cell?_setCell_far _ _ _ _ (by dsimp only; omega), World.cell?_setCell_far _ _ _ _ (by dsimp only; omega)]; first | exact R1.o _ _ rfl _ (by assumption) | exact R2.o _ _ rfl _ (by assumption)) | go_keep)))
  (first | (go_at_call_of 156 (Value.slice ga gn gc); refine HC3.o.mono ?_; rintro en w6 ⟨⟨r6, rfl, hr6⟩, hbel6⟩; obtain ⟨a6, n6, k6, he6⟩ := hr6.form; subst he6; have hz6 := hbel6) | (go_at_call 156; refine (HC4.o _ hbel6).mono ?_; rintro en w7 ⟨⟨r7, rfl, hr7⟩, hbel7⟩; obtain ⟨a7, n7, k7, he7⟩ := hr7.form; subst he7; have hz7 := q0q hz6 hbel7) | (go_at_call 158; refine (HC5.o _ _ _ (hr6.below hbel7) hr7).mono ?_; rintro en w8 ⟨⟨r8, rfl, hr8⟩, hbel8⟩; obtain ⟨a8, n8, k8, he8⟩ := hr8.form; subst he8; have hz8 := q0q hz7 hbel8) | (go_at_call_of 153 (Value.slice da dn dc); refine (HC6.o _ hz8).mono ?_; rintro en w9 ⟨⟨r9, rfl, hr9, hro9⟩, hbel9⟩; obtain ⟨a9, n9, k9, he9⟩ := hr9.form; subst he9; have hz9 := q0q hz8 hbel9) | (go_at_call 153; refine (HC7.o _ hz9).mono ?_; rintro en wa ⟨⟨ra, rfl, hra, hroa⟩, hbela⟩; obtain ⟨aa, na, ka, hea⟩ := hra.form; subst hea; have hza := q0q hz9 hbela) | (go_at_call 157; refine (HC8.o _ _ _ (hr9.below hbela) hra).mono ?_; rintro en wb ⟨⟨rb, rfl, hrb, hrob⟩, hbelb⟩; obtain ⟨ab, nb, kb, heb⟩ := hrb.form; subst heb; have hzb := q0q hza hbelb; have r0 := (R0.o 0 _ rfl _ hzb).1; have r1 := (R0.o 1 _ rfl _ hzb).1; have r2 := (R0.o 2 _ rfl _ hzb).1; have f0 := (R0.o 0 _ rfl _ hzb).2; have f1 := (R0.o 1 _ rfl _ hzb).2; have f2 := (R0.o 2 _ rfl _ hzb).2))
 have HRB : Hi (wb.heap[w.heap.size + 2]? = some (.cells #[.slice none 0 0, .bool false, .slice none 0 0] 89 (0, 0))) := hdd ((hzb.block _ (lt_of_block HR5.o)).trans HR5.o)
 have HBW := hdd (q0q HB5.o (u2q hzb))
 have HNU := hdd ((hr8.below hbel9).below (q0q hbela hbelb))
 have HND := hdd hrb
 clear hz6 hz7 hz8 hz9 hza hzb r0 r1 r2 f0 f1 f2 hr6 hr7 hr8 hr9 hra hrb hbel6 hbel7 hbel8 hbel9 hbela hbelb hro9 hroa hrob
 go_wp2_with fail
 have h9 := s2q (q := q * p) (u := Value.slice a8 n8 k8) (d := Value.slice ab nb kb) HRB.o (by rw [HNN.o]; exact HNU.o) (by rw [HDD.o]; exact HND.o)
 rw [HNN.o, ← HX3.o] at h9
 exact bodyPost_ret (results_cell_row rfl _ _ (w.heap.size + 2) _ _ _ _ rfl (b0q HRB.o) Tryz.underlying89 rfl i8q) rfl ⟨⟨_, rfl, h9⟩, q4q HBW.o (g6q _ _ _ _ _) (by omega)⟩
theorem q3x {W : World} {cs : Array Value} {t : TypeId} (hb : Below (W.alloc (.cells cs t)).heap.size (W.alloc (.cells cs t)) w') : w'.heap[W.heap.size]? = some (.cells cs t (0, 0)) :=
 (hb.block _ (by simp)).trans (heap_alloc_new W _)
theorem u8k : ∀ (j k : Nat), (#[Value.slice none 0 0, Value.bool false] : Array Value)[j]? ≠ some (U k) := by
 intro j k h
 match j, h with
 | 0, h => simp [U] at h
 | 1, h => simp [U] at h
 | (j + 2), h => simp at h
theorem b5q {B : Nat} {t : TypeId} (h : w.heap[B]? = some (.cells #[.slice none 0 0, .bool false] t (0, 0))) :
  w.cell? ⟨B, 0, none⟩ = some (Value.slice none 0 0) ∧ w.cell? ⟨B, 1, none⟩ = some (Value.bool false) ∧ w.frozen? ⟨B, 0, none⟩ = false ∧ w.frozen? ⟨B, 1, none⟩ = false :=
 ⟨by rw [cell_of_row _ _ _ _ _ _ h]; rfl, by rw [cell_of_row _ _ _ _ _ _ h]; rfl, frozen_of_row _ _ 0 _ _ h, frozen_of_row _ _ 1 _ _ h⟩

theorem v7y {q : Rat} (hv : g0q w v q) (hd : g0q w d p) (hlen : j5q q + j5q p ≤ 178956970) :
  Calls Tryz.prog 131 #[v, d] w fun e w' => (∃ r, e = .returned r ∧ g0q w' r (q + p)) ∧ Below w.heap.size w w' := by
 obtain ⟨u1, d1, rfl, hu1, hd1⟩ := hv
 obtain ⟨u2, d2, rfl, hu2, hd2⟩ := hd
 obtain ⟨ua, un, uc, hue⟩ := hu1.form
 subst hue
 obtain ⟨da, dn, dc, hde⟩ := hd1.form
 subst hde
 obtain ⟨va, vn, vc, hve⟩ := hu2.form
 subst hve
 obtain ⟨ea, en, ec, hee⟩ := hd2.form
 subst hee
 have HU := hdd hu1
 have HD := hdd hd1
 have HV := hdd hu2
 have HE := hdd hd2
 have HL : Hi ((q2q q.num.natAbs).length + (q2q q.den).length + ((q2q p.num.natAbs).length + (q2q p.den).length) ≤ 178956970) := hdd hlen
 clear hu1 hd1 hu2 hd2 hlen
 obtain ⟨b, hb⟩ := qx (decide (q.num < 0))
 obtain ⟨c, hc⟩ := qx (decide (p.num < 0))
 have HBQ := hdd hb
 have HCQ := hdd hc
 rw [← hb, ← hc]
 obtain ⟨g, hg⟩ := qx (Nat.gcd q.den p.den)
 have HG := hdd hg
 have hg0 : 0 < g := by rw [hg]; exact Nat.gcd_pos_of_pos_right _ p.den_pos
 obtain ⟨ad, had⟩ := qx (q.den / g)
 obtain ⟨bd, hbd⟩ := qx (p.den / g)
 obtain ⟨N, hN⟩ := qx (q2v q p)
 obtain ⟨h, hh⟩ := qx (j8j q p)
 have HAD := hdd had
 have HBD := hdd hbd
 have HNN := hdd hN
 have HH : Hi (h = Nat.gcd N.natAbs g) := hdd (by rw [hh, hN, hg]; rfl)
 have hh0 : 0 < h := by rw [HH.o]; exact Nat.gcd_pos_of_pos_right _ hg0
 obtain ⟨N1, hN1⟩ := qx (q.num * (bd : Int))
 obtain ⟨N2, hN2⟩ := qx (p.num * (ad : Int))
 have HN1 := hdd hN1
 have HN2 := hdd hN2
 have HN12 : Hi (N = N1 + N2) := hdd (by rw [hN1, hN2, hN, had, hbd, hg]; rfl)
 obtain ⟨nz, hnz⟩ := qx ((q + p).num)
 have HNZ := hdd hnz
 have HNH : Hi (N = nz * (h : Int)) := hdd (by rw [hnz, hN, hh]; exact g4v q p)
 have HDD : Hi ((q + p).den = ad * (p.den / h)) := hdd (by rw [had, hh, hg]; exact g4y q p)
 have HLA : Hi ((q2q ad).length ≤ (q2q q.den).length) := hdd (z6q (by rw [had]; exact Nat.div_le_self _ _))
 have HLB : Hi ((q2q bd).length ≤ (q2q p.den).length) := hdd (z6q (by rw [hbd]; exact Nat.div_le_self _ _))
 have HL1 : Hi ((q2q N1.natAbs).length ≤ (q2q q.num.natAbs).length + (q2q bd).length) := hdd (by rw [hN1, Int.natAbs_mul, Int.natAbs_natCast]; exact k2q _ _)
 have HL2 : Hi ((q2q N2.natAbs).length ≤ (q2q p.num.natAbs).length + (q2q ad).length) := hdd (by rw [hN2, Int.natAbs_mul, Int.natAbs_natCast]; exact k2q _ _)
 have HL3 : Hi ((q2q N.natAbs).length ≤ (q2q N1.natAbs).length + (q2q N2.natAbs).length + 1) := hdd (by
  rw [HN12.o]
  refine Nat.le_trans (z6q (Int.natAbs_add_le N1 N2)) (i9q _ _ _ (by omega) (by omega)))
 obtain ⟨x1, hx1⟩ := qx (decide (N1 < 0))
 obtain ⟨x2, hx2⟩ := qx (decide (N2 < 0))
 obtain ⟨x3, hx3⟩ := qx (decide (N < 0))
 obtain ⟨x4, hx4⟩ := qx (decide (nz < 0))
 have HX1 := hdd hx1
 have HX2 := hdd hx2
 have HX3 := hdd hx3
 have HX4 := hdd hx4
 clear hb hc hg had hbd hN hh hN1 hN2 hnz hx1 hx2 hx3 hx4
 go_enter Tryz.func131, Tryz.ntmps131
 go_wp2_with fail
 obtain ⟨w1, hw1⟩ := qx (((w.alloc (Obj.cells #[.slice ua un uc, .bool b, .slice da dn dc] 89)).alloc (Obj.cells #[.slice va vn vc, .bool c, .slice ea en ec] 89)).alloc (Obj.cells #[.slice none 0 0, .bool false, .slice none 0 0] 89))
 rw [← hw1]
 have HB1 : Hi (Below w.heap.size w w1) := hdd (by rw [hw1]; exact (((qb).alloc qm _).alloc (by simp) _).alloc (by simp; omega) _)
 have HX : Hi (w1.heap[w.heap.size]? = some (.cells #[.slice ua un uc, .bool b, .slice da dn dc] 89 (0, 0))) := hdd (by rw [hw1]; exact p8q w _ _ _)
 have HY : Hi (w1.heap[w.heap.size + 1]? = some (.cells #[.slice va vn vc, .bool c, .slice ea en ec] 89 (0, 0))) := hdd (by rw [hw1]; exact p9q w _ _ _)
 have HR : Hi (w1.heap[w.heap.size + 2]? = some (.cells #[.slice none 0 0, .bool false, .slice none 0 0] 89 (0, 0))) := hdd (by rw [hw1]; exact h3q w _ _ _)
 clear hw1
 have R0 : Hi (∀ o v, (#[Value.slice none 0 0, Value.bool false, Value.slice none 0 0] : Array Value)[o]? = some v → ∀ w', Below w1.heap.size w1 w' → w'.cell? ⟨w.heap.size + 2, o, none⟩ = some v ∧ w'.frozen? ⟨w.heap.size + 2, o, none⟩ = false) :=
  hdd (fun o v h w' hb => by
   have h9 : w'.heap[w.heap.size + 2]? = some (.cells #[.slice none 0 0, .bool false, .slice none 0 0] 89 (0, 0)) := (hb.block _ (lt_of_block HR.o)).trans HR.o
   exact ⟨by rw [cell_of_row _ _ _ _ _ _ h9]; exact h, frozen_of_row _ _ _ _ _ h9⟩)
 have R1 : Hi (∀ o v, (#[Value.slice ua un uc, Value.bool b, Value.slice da dn dc] : Array Value)[o]? = some v → ∀ w', Below w1.heap.size w1 w' → w'.cell? ⟨w.heap.size, o, none⟩ = some v) :=
  hdd (fun o v h w' hb => by rw [cell_of_row _ _ _ _ _ _ ((hb.block _ (lt_of_block HX.o)).trans HX.o)]; exact h)
 have R2 : Hi (∀ o v, (#[Value.slice va vn vc, Value.bool c, Value.slice ea en ec] : Array Value)[o]? = some v → ∀ w', Below w1.heap.size w1 w' → w'.cell? ⟨w.heap.size + 1, o, none⟩ = some v) :=
  hdd (fun o v h w' hb => by rw [cell_of_row _ _ _ _ _ _ ((hb.block _ (lt_of_block HY.o)).trans HY.o)]; exact h)
 have HU1 := hdd (HU.o.below HB1.o)
 have HD1 := hdd (HD.o.below HB1.o)
 have HV1 := hdd (HV.o.below HB1.o)
 have HE1 := hdd (HE.o.below HB1.o)
 have HC1 := hdd (j3y HD1.o HE1.o (by have := HL.o; omega) (by have := HL.o; omega))
 rw [← HG.o] at HC1
 refine HC1.o.mono ?_
 rintro en2 w2 ⟨⟨gv, rfl, hgv, hgo⟩, hz2⟩
 obtain ⟨ga, gn, gc, hge⟩ := hgv.form
 subst hge
 have HG2 := hdd hgv
 have c0 := R1.o 0 _ rfl _ hz2
 have c1 := R1.o 1 _ rfl _ hz2
 have c2 := R1.o 2 _ rfl _ hz2
 clear hgv hgo
 go_wp2_with fail
 refine (q6v (HD1.o.below hz2) HG2.o hg0 (by have := HL.o; omega)).mono ?_
 rintro en3 w3 ⟨⟨rv, rfl, hrv, hro⟩, hb3⟩
 obtain ⟨ra, rn, rc, hre⟩ := hrv.form
 subst hre
 have HRV : Hi (IsW w3 (Value.slice ra rn rc) (q2q ad)) := hdd (by rw [HAD.o]; exact hrv)
 have hz3 := q0q hz2 hb3
 have HG3 := hdd (HG2.o.below hb3)
 clear c0 c1 c2 hrv hro hb3
 have hz0 : Below w3.heap.size w3 w3.drew := q5q qb 1
 have hs3 : w.heap.size + 3 ≤ w3.heap.size := by have h1 := hz3.size; have h2 := lt_of_block HR.o; omega
 have HZ3 := hdd hz3
 have HK4 := hdd (fun w' (hb : Below w3.heap.size w3 w') => q6v (w := w') ((HE1.o.below HZ3.o).below hb) (HG3.o.below hb) hg0 (by have := HL.o; omega))
 rw [← HBD.o] at HK4
 have HK5 := hdd (fun w' (hb : Below w3.heap.size w3 w') u (h : IsW w' u (q2q bd)) => v7x (w := w') (d := u) (q := N1) (x := x1) ((HU1.o.below HZ3.o).below hb) HBQ.o h (by have := HL.o; have := HLB.o; omega) HN1.o HX1.o)
 have HK6 := hdd (fun w' (hb : Below w3.heap.size w3 w') => v7x (w := w') (q := N2) (x := x2) ((HV1.o.below HZ3.o).below hb) HCQ.o (HRV.o.below hb) (by have := HL.o; have := HLA.o; omega) HN2.o HX2.o)
 have HK7 := hdd (fun w' u1 u2 (h1 : IsW w' u1 (q2q N1.natAbs)) (h2 : IsW w' u2 (q2q N2.natAbs)) => g8y (w := w') (u := u1) (d := u2) (q := N) (x := x3) h1 HX1.o h2 HX2.o (by have := HL.o; have := HL1.o; have := HLB.o; omega) (by have := HL.o; have := HL2.o; have := HLA.o; omega) HN12.o HX3.o)
 have Q1 : Hi (∀ o v, (#[Value.slice ua un uc, Value.bool b, Value.slice da dn dc] : Array Value)[o]? = some v → ∀ w', Below w3.heap.size w3 w' → w'.cell? ⟨w.heap.size, o, none⟩ = some v) := hdd (fun o v h w' hb => R1.o o v h w' (q0q HZ3.o hb))
 have Q2 : Hi (∀ o v, (#[Value.slice va vn vc, Value.bool c, Value.slice ea en ec] : Array Value)[o]? = some v → ∀ w', Below w3.heap.size w3 w' → w'.cell? ⟨w.heap.size + 1, o, none⟩ = some v) := hdd (fun o v h w' hb => R2.o o v h w' (q0q HZ3.o hb))
 have c0 := R1.o 0 _ rfl _ hz3
 have c1 := R1.o 1 _ rfl _ hz3
 have c2 := R1.o 2 _ rfl _ hz3
 have e0 := R2.o 0 _ rfl _ hz3
 have e1 := R2.o 1 _ rfl _ hz3
 have e2 := R2.o 2 _ rfl _ hz3
 clear hz2 hz3
 go_wp2_with fail
 go_cut [7] (fun pv wr => ∃ (B : Nat) (na : Option Addr) (nn nc : Nat), pv = .pointer (some ⟨B, 0, none⟩) ∧ Hi (wr.heap[B]? = some (.cells #[.slice na nn nc, .bool x3] 87 (0, 0))) ∧ Hi (IsW wr (Value.slice na nn nc) (q2q N.natAbs)) ∧ Hi (Below w3.heap.size w3 wr))
 case first =>
  go_region_held3 (fun w' => w'.cell? ⟨w.heap.size, 0, none⟩ = some (.slice ua un uc) ∧ w'.cell? ⟨w.heap.size, 1, none⟩ = some (.bool b) ∧ w'.cell? ⟨w.heap.size, 2, none⟩ = some (.slice da dn dc) ∧ w'.cell? ⟨w.heap.size + 1, 0, none⟩ = some (.slice va vn vc) ∧ w'.cell? ⟨w.heap.size + 1, 1, none⟩ = some (.bool c) ∧ w'.cell? ⟨w.heap.size + 1, 2, none⟩ = some (.slice ea en ec))
   (((try dsimp only); refine ⟨?_, ?_, ?_, ?_, ?_, ?_⟩ <;> (first | exact Q1.o _ _ rfl _ (by first | assumption | exact Below.alloc (by assumption) (by assumption) _) | exact Q2.o _ _ rfl _ (by first | assumption | exact Below.alloc (by assumption) (by assumption) _) | (rw [World.cell?_setCell_far _ _ _ _ (by dsimp only; omega), World.cell?_setCell_far _ _ _ _ (by dsimp only; omega)]; first | exact Q1.o _ _ rfl _ (by first | assumption | exact Below.alloc (by assumption) (by assumption) _) | exact Q2.o _ _ rfl _ (by first | assumption | exact Below.alloc (by assumption) (by assumption) _)) | go_keep)))
   (first | (go_at_call 153; refine (HK4.o _ (by first | exact hz0 | exact hz0.alloc hz0.size _)).mono ?_; rintro en4 w4 ⟨⟨r4, rfl, hr4, ho4⟩, hb4⟩; obtain ⟨a4, n4, k4, he4⟩ := hr4.form; subst he4; have hz4 : Below w3.heap.size w3 w4 := (by first | exact q0q hz0 hb4 | exact q0q (hz0.alloc hz0.size _) hb4); have hs4 := hz4.size; (try have hq4 : w4.heap[w3.heap.size]? = some (.cells #[.slice none 0 0, .bool false] 87 (0, 0)) := q3x (W := w3.drew) hb4); (try (have q40 := (b5q hq4).1; have q41 := (b5q hq4).2.1; have q42 := (b5q hq4).2.2.1; have q43 := (b5q hq4).2.2.2))) | (go_at_call_of 154 (Value.slice a4 n4 k4); refine (HK5.o _ (by first | exact hz4 | exact hz4.alloc hz4.size _) _ (by first | exact hr4 | exact hr4.below ((qb).alloc qm _))).mono ?_; rintro en5 w5 ⟨⟨r5, rfl, hr5⟩, hb5⟩; obtain ⟨a5, n5, k5, he5⟩ := hr5.form; subst he5; have hz5 : Below w3.heap.size w3 w5 := (by first | exact q0q hz4 hb5 | exact q0q (hz4.alloc hz4.size _) hb5); have hs5 := hz5.size; (try have hq5 : w5.heap[w4.heap.size]? = some (.cells #[.slice none 0 0, .bool false] 87 (0, 0)) := q3x hb5); (try have hq5 := (hb5.block _ (lt_of_block hq4)).trans hq4); (try (have q50 := (b5q hq5).1; have q51 := (b5q hq5).2.1; have q52 := (b5q hq5).2.2.1; have q53 := (b5q hq5).2.2.2))) | (go_at_call 154; refine (HK6.o _ (by first | exact hz5 | exact hz5.alloc hz5.size _)).mono ?_; rintro en6 w6 ⟨⟨r6, rfl, hr6⟩, hb6⟩; obtain ⟨a6, n6, k6, he6⟩ := hr6.form; subst he6; have hz6 : Below w3.heap.size w3 w6 := (by first | exact q0q hz5 hb6 | exact q0q (hz5.alloc hz5.size _) hb6); have hs6 := hz6.size; (try have hq6 : w6.heap[w5.heap.size]? = some (.cells #[.slice none 0 0, .bool false] 87 (0, 0)) := q3x hb6); (try have hq6 := (hb6.block _ (lt_of_block hq5)).trans hq5); (try (have q60 := (b5q hq6).1; have q61 := (b5q hq6).2.1; have q62 := (b5q hq6).2.2.1; have q63 := (b5q hq6).2.2.2))) | (go_at_call 155; refine (HK7.o _ _ _ (by first | exact hr5.below hb6 | exact (hr5.below ((qb).alloc qm _)).below hb6 | exact (hr5.below hb6).below ((qb).alloc qm _)) (by first | exact hr6 | exact hr6.below ((qb).alloc qm _))).mono ?_; rintro en7 w7 ⟨⟨r7, rfl, hr7⟩, hb7⟩; obtain ⟨a7, n7, k7, he7⟩ := hr7.form; subst he7; have hz7 : Below w3.heap.size w3 w7 := (by first | exact q0q hz6 hb7 | exact q0q (hz6.alloc hz6.size _) hb7); have hs7 := hz7.size; (try have hq7 : w7.heap[w6.heap.size]? = some (.cells #[.slice none 0 0, .bool false] 87 (0, 0)) := q3x hb7); (try have hq7 := (hb7.block _ (lt_of_block hq6)).trans hq6); (try (have q70 := (b5q hq7).1; have q71 := (b5q hq7).2.1; have q72 := (b5q hq7).2.2.1; have q73 := (b5q hq7).2.2.2))))
  all_goals
   go_wp2_with fail
   go_meet
  all_goals first
   | exact ⟨_, _, _, _, rfl, hdd (heap_alloc_new w7 _), hdd (hr7.below ((qb).alloc qm _)), hdd (hz7.alloc hz7.size _)⟩
   | exact ⟨_, _, _, _, rfl, hdd (heap_setCell_same _ _ 1 _ _ _ (heap_setCell_same _ _ 0 _ _ _ hq7)), hdd (hr7.other hq7 u8k (((z9q.refl _ w7).setCell 0 _).setCell 1 _)), hdd (q4q hz7 (((z9q.refl _ w7).setCell 0 _).setCell 1 _) (by omega))⟩
 case rest =>
  obtain ⟨w8, rfl⟩ : ∃ w8 : World, w8 = wc := ⟨_, rfl⟩
  obtain ⟨B, na, nn, nc, rfl, HB8, HN8, HZ8⟩ := hcut
  clear c0 c1 c2 e0 e1 e2
  have c0 := Q1.o 0 _ rfl _ HZ8.o
  have c1 := Q1.o 1 _ rfl _ HZ8.o
  have c2 := Q1.o 2 _ rfl _ HZ8.o
  have e0 := Q2.o 0 _ rfl _ HZ8.o
  have e1 := Q2.o 1 _ rfl _ HZ8.o
  have e2 := Q2.o 2 _ rfl _ HZ8.o
  have b0 : w8.cell? ⟨B, 0, none⟩ = some (Value.slice na nn nc) := by rw [cell_of_row _ _ _ _ _ _ HB8.o]; rfl
  have b1 : w8.cell? ⟨B, 1, none⟩ = some (Value.bool x3) := by rw [cell_of_row _ _ _ _ _ _ HB8.o]; rfl
  go_wp2_with fail
  refine (j3y HN8.o (HG3.o.below HZ8.o) (by have := HL.o; have := HL1.o; have := HL2.o; have := HL3.o; have := HLA.o; have := HLB.o; omega) (by
   have h1 : g ≤ q.den := by rw [HG.o]; exact Nat.gcd_le_left _ q.den_pos
   have h2 := z6q h1
   have := HL.o; omega)).mono ?_
  rintro en9 w9 ⟨⟨hvv, rfl, hhv, hho⟩, hb9⟩
  obtain ⟨ha, hn, hc, hhe⟩ := hhv.form
  subst hhe
  rw [← HH.o] at hhv
  have HHV := hdd hhv
  have HZ9 := hdd (q0q HZ8.o hb9)
  have HB9 : Hi (w9.heap[B]? = some (.cells #[.slice na nn nc, .bool x3] 87 (0, 0))) := hdd ((hb9.block _ (lt_of_block HB8.o)).trans HB8.o)
  have HN9 := hdd (HN8.o.below hb9)
  clear c0 c1 c2 e0 e1 e2 b0 b1 hhv hho hb9
  have c0 := Q1.o 0 _ rfl _ HZ9.o
  have c1 := Q1.o 1 _ rfl _ HZ9.o
  have c2 := Q1.o 2 _ rfl _ HZ9.o
  have e0 := Q2.o 0 _ rfl _ HZ9.o
  have e1 := Q2.o 1 _ rfl _ HZ9.o
  have e2 := Q2.o 2 _ rfl _ HZ9.o
  have b0 : w9.cell? ⟨B, 0, none⟩ = some (Value.slice na nn nc) := by rw [cell_of_row _ _ _ _ _ _ HB9.o]; rfl
  have b1 : w9.cell? ⟨B, 1, none⟩ = some (Value.bool x3) := by rw [cell_of_row _ _ _ _ _ _ HB9.o]; rfl
  go_wp2_with fail
  have HR9 : Hi (w9.heap[w.heap.size + 2]? = some (.cells #[.slice none 0 0, .bool false, .slice none 0 0] 89 (0, 0))) := hdd (((q0q HZ3.o HZ9.o).block _ (lt_of_block HR.o)).trans HR.o)
  have hBR : B ≠ w.heap.size + 2 := fun e => by
   have h1 := HB9.o
   rw [e, HR9.o] at h1
   simp at h1
  have HZ10 := hdd (q0q HZ3.o HZ9.o)
  have HB10 := hdd (q0q HB1.o HZ10.o)
  have M0 : Hi (∀ o v, (#[Value.slice none 0 0, Value.bool false, Value.slice none 0 0] : Array Value)[o]? = some v → ∀ w', Below w9.drew.heap.size w9.drew w' → w'.cell? ⟨w.heap.size + 2, o, none⟩ = some v ∧ w'.frozen? ⟨w.heap.size + 2, o, none⟩ = false) :=
   hdd (fun o v h w' hb => by
    have h9 : w'.heap[w.heap.size + 2]? = some (.cells #[.slice none 0 0, .bool false, .slice none 0 0] 89 (0, 0)) := (hb.block _ (lt_of_block HR9.o)).trans HR9.o
    exact ⟨by rw [cell_of_row _ _ _ _ _ _ h9]; exact h, frozen_of_row _ _ _ _ _ h9⟩)
  have MB : Hi (∀ o v, (#[Value.slice na nn nc, Value.bool x3] : Array Value)[o]? = some v → ∀ w', Below w9.drew.heap.size w9.drew w' → w'.cell? ⟨B, o, none⟩ = some v) :=
   hdd (fun o v h w' hb => by rw [cell_of_row _ _ _ _ _ _ ((hb.block _ (lt_of_block HB9.o)).trans HB9.o)]; exact h)
  have M2 : Hi (∀ w', Below w9.drew.heap.size w9.drew w' → w'.cell? ⟨w.heap.size + 1, 2, none⟩ = some (Value.slice ea en ec)) := hdd (fun w' hb => Q2.o 2 _ rfl w' (q0q (q5q HZ9.o 1) hb))
  have HM1 := hdd (z3j (w := w9.drew) (x := x4) HN9.o.drew HX3.o HHV.o.drew hh0 HNH.o (by have := HL.o; have := HL1.o; have := HL2.o; have := HL3.o; have := HLA.o; have := HLB.o; omega) HX4.o)
  have HM2 := hdd (fun w' (hb : Below w9.drew.heap.size w9.drew w') => q6v (w := w') ((HE1.o.below HZ10.o).drew.below hb) (HHV.o.drew.below hb) hh0 (by have := HL.o; omega))
  have HLH : Hi ((q2q (p.den / h)).length ≤ (q2q p.den).length) := hdd (z6q (Nat.div_le_self _ _))
  have HM3 := hdd (fun w' u (hb : Below w9.drew.heap.size w9.drew w') (hu : IsW w' u (q2q (p.den / h))) => j9k (w := w') (v := u) ((HRV.o.below HZ9.o).drew.below hb) hu (by have := HL.o; have := HLA.o; have := HLH.o; omega))
  go_region_held3 (fun w' => w'.cell? ⟨B, 0, none⟩ = some (.slice na nn nc) ∧ w'.cell? ⟨B, 1, none⟩ = some (.bool x3) ∧ w'.cell? ⟨w.heap.size + 1, 2, none⟩ = some (.slice ea en ec))
   (((try dsimp only); refine ⟨?_, ?_, ?_⟩ <;> (first | exact MB.o _ _ rfl _ (by assumption) | exact M2.o _ (by assumption) | (rw [World.cell?_setCell_far _ _ _ _ (by dsimp only; omega), World.cell?_setCell_far _ _ _ _ (by dsimp only; omega), World.cell?_setCell_far _ _ _ _ (by dsimp only; omega)]; first | exact MB.o _ _ rfl _ (by assumption) | exact M2.o _ (by assumption)) | go_keep)))
   (first | (go_at_call 156; refine HM1.o.mono ?_; rintro ena wa ⟨⟨r1v, rfl, hr1⟩, hba⟩; obtain ⟨a1, n1, k1, he1⟩ := hr1.form; subst he1; have hza := hba) | (go_at_call 153; refine (HM2.o _ hza).mono ?_; rintro enb wb ⟨⟨r2v, rfl, hr2, hro2⟩, hbb⟩; obtain ⟨a2, n2, k2, he2⟩ := hr2.form; subst he2; have hzb := q0q hza hbb) | (go_at_call 157; refine (HM3.o _ _ hzb hr2).mono ?_; rintro end_ wd ⟨⟨r3v, rfl, hr3, hro3⟩, hbd⟩; obtain ⟨a3, n3, k3, he3⟩ := hr3.form; subst he3; have hzd := q0q hzb hbd; have r0 := (M0.o 0 _ rfl _ hzd).1; have r1 := (M0.o 1 _ rfl _ hzd).1; have r2 := (M0.o 2 _ rfl _ hzd).1; have f0 := (M0.o 0 _ rfl _ hzd).2; have f1 := (M0.o 1 _ rfl _ hzd).2; have f2 := (M0.o 2 _ rfl _ hzd).2))
  have HRD : Hi (wd.heap[w.heap.size + 2]? = some (.cells #[.slice none 0 0, .bool false, .slice none 0 0] 89 (0, 0))) := hdd ((hzd.block _ (lt_of_block HR9.o)).trans HR9.o)
  have HBW := hdd (q0q HB10.o (u2q hzd))
  have HNU := hdd (hr1.below (q0q hbb hbd))
  have HND := hdd hr3
  clear hza hzb hzd r0 r1 r2 f0 f1 f2 hr1 hr2 hr3 hba hbb hbd hro2 hro3
  go_wp2_with fail
  have h9 := s2q (q := q + p) (u := Value.slice a1 n1 k1) (d := Value.slice a3 n3 k3) HRD.o (by rw [← HNZ.o]; exact HNU.o) (by rw [HDD.o]; exact HND.o)
  rw [← HNZ.o, ← HX4.o] at h9
  exact bodyPost_ret (results_cell_row rfl _ _ (w.heap.size + 2) _ _ _ _ rfl (b0q HRD.o) Tryz.underlying89 rfl i8q) rfl ⟨⟨_, rfl, h9⟩, q4q HBW.o (g6q _ _ _ _ _) (by omega)⟩
theorem j1w {s : Int} (hu : IsW w u (q2q z.natAbs)) (hb : b = decide (z < 0)) (hs : s = z.sign) :
  Calls Tryz.prog 107 #[.agg #[u, .bool b]] w fun e w' => e = .returned (.int .i64 s) ∧ Below w.heap.size w w' := by
 subst hb; subst hs
 exact g9h ⟨_, rfl, hu⟩

theorem u2y {q : Rat} (hv : g0q w v q) (hd : g0q w d p) (hlen : j5q q + j5q p ≤ 536870912) :
  Calls Tryz.prog 134 #[v, d] w fun e w' => e = .returned (.int .i64 (z7q q p)) ∧ Below w.heap.size w w' := by
 obtain ⟨u1, d1, rfl, hu1, hd1⟩ := hv
 obtain ⟨u2, d2, rfl, hu2, hd2⟩ := hd
 obtain ⟨ua, un, uc, hue⟩ := hu1.form
 subst hue
 obtain ⟨da, dn, dc, hde⟩ := hd1.form
 subst hde
 obtain ⟨va, vn, vc, hve⟩ := hu2.form
 subst hve
 obtain ⟨ea, en, ec, hee⟩ := hd2.form
 subst hee
 have HU := hdd hu1
 have HD := hdd hd1
 have HV := hdd hu2
 have HE := hdd hd2
 have HL : Hi ((q2q q.num.natAbs).length + (q2q q.den).length + ((q2q p.num.natAbs).length + (q2q p.den).length) ≤ 536870912) := hdd hlen
 clear hu1 hd1 hu2 hd2 hlen
 obtain ⟨b, hb⟩ := qx (decide (q.num < 0))
 obtain ⟨c, hc⟩ := qx (decide (p.num < 0))
 have HBQ := hdd hb
 have HCQ := hdd hc
 rw [← hb, ← hc]
 obtain ⟨sa, hsa⟩ := qx (q.num.sign)
 obtain ⟨sb, hsb⟩ := qx (p.num.sign)
 have HSA := hdd hsa
 have HSB := hdd hsb
 clear hb hc hsa hsb
 go_enter Tryz.func134, Tryz.ntmps134
 go_wp2_with fail
 obtain ⟨w1, hw1⟩ := qx ((w.alloc (Obj.cells #[.slice ua un uc, .bool b, .slice da dn dc] 89)).alloc (Obj.cells #[.slice va vn vc, .bool c, .slice ea en ec] 89))
 rw [← hw1]
 have HB1 : Hi (Below w.heap.size w w1) := hdd (by rw [hw1]; exact ((qb).alloc qm _).alloc (by simp) _)
 have HX : Hi (w1.heap[w.heap.size]? = some (.cells #[.slice ua un uc, .bool b, .slice da dn dc] 89 (0, 0))) := hdd (by rw [hw1]; exact heap_alloc2_old w _ _)
 have HY : Hi (w1.heap[w.heap.size + 1]? = some (.cells #[.slice va vn vc, .bool c, .slice ea en ec] 89 (0, 0))) := hdd (by rw [hw1]; exact heap_alloc2_new w _ _)
 clear hw1
 have R1 : Hi (∀ o v, (#[Value.slice ua un uc, Value.bool b, Value.slice da dn dc] : Array Value)[o]? = some v → ∀ w', Below w1.heap.size w1 w' → w'.cell? ⟨w.heap.size, o, none⟩ = some v) :=
  hdd (fun o v h w' hb => by rw [cell_of_row _ _ _ _ _ _ ((hb.block _ (lt_of_block HX.o)).trans HX.o)]; exact h)
 have R2 : Hi (∀ o v, (#[Value.slice va vn vc, Value.bool c, Value.slice ea en ec] : Array Value)[o]? = some v → ∀ w', Below w1.heap.size w1 w' → w'.cell? ⟨w.heap.size + 1, o, none⟩ = some v) :=
  hdd (fun o v h w' hb => by rw [cell_of_row _ _ _ _ _ _ ((hb.block _ (lt_of_block HY.o)).trans HY.o)]; exact h)
 have HU1 := hdd (HU.o.below HB1.o)
 have HD1 := hdd (HD.o.below HB1.o)
 have HV1 := hdd (HV.o.below HB1.o)
 have HE1 := hdd (HE.o.below HB1.o)
 have hz1 := Below.refl w1.heap.size w1
 have c0 := R1.o 0 _ rfl _ hz1
 have c1 := R1.o 1 _ rfl _ hz1
 have c2 := R1.o 2 _ rfl _ hz1
 have e0 := R2.o 0 _ rfl _ hz1
 have e1 := R2.o 1 _ rfl _ hz1
 have e2 := R2.o 2 _ rfl _ hz1
 have hzd : Below w1.heap.size w1 w1.drew := q5q qb 1
 by_cases hs : sa = sb
 ·
  have hne : ((sa : Int) != sb) = false := by simp [hs]
  have HS := hdd hs
  clear hs
  go_wp2_with fail
  go_region_held3 (fun w' => w'.cell? ⟨w.heap.size, 0, none⟩ = some (.slice ua un uc) ∧ w'.cell? ⟨w.heap.size, 1, none⟩ = some (.bool b) ∧ w'.cell? ⟨w.heap.size, 2, none⟩ = some (.slice da dn dc) ∧ w'.cell? ⟨w.heap.size + 1, 0, none⟩ = some (.slice va vn vc) ∧ w'.cell? ⟨w.heap.size + 1, 1, none⟩ = some (.bool c) ∧ w'.cell? ⟨w.heap.size + 1, 2, none⟩ = some (.slice ea en ec))
   (((try dsimp only); refine ⟨?_, ?_, ?_, ?_, ?_, ?_⟩ <;> (first | exact R1.o _ _ rfl _ (by assumption) | exact R2.o _ _ rfl _ (by assumption) | go_keep)))
   (first | (go_at_call_of 107 (Value.slice ua un uc); refine (j1w (HU1.o.below hzd) HBQ.o HSA.o).mono ?_; rintro en2 w2 ⟨rfl, hb2⟩; have hz2 := q0q hzd hb2) | (go_at_call 107; refine (j1w (HV1.o.below hz2) HCQ.o HSB.o).mono ?_; rintro en3 w3 ⟨rfl, hb3⟩; have hz3 := q0q hz2 hb3))
  clear c0 c1 c2 e0 e1 e2 hzd
  have c0 := R1.o 0 _ rfl _ hz3
  have c1 := R1.o 1 _ rfl _ hz3
  have c2 := R1.o 2 _ rfl _ hz3
  have e0 := R2.o 0 _ rfl _ hz3
  have e1 := R2.o 1 _ rfl _ hz3
  have e2 := R2.o 2 _ rfl _ hz3
  clear hz2 hb2 hb3
  go_wp2_with fail
  have hz4 : Below w1.heap.size w1 w3.drew := q5q hz3 1
  have HM1 := hdd (fun w' (hb : Below w1.heap.size w1 w') => j9k (w := w') (HU1.o.below hb) (HE1.o.below hb) (by have := HL.o; omega))
  have HM2 := hdd (fun w' (hb : Below w1.heap.size w1 w') => j9k (w := w') (HV1.o.below hb) (HD1.o.below hb) (by have := HL.o; omega))
  obtain ⟨cm, hcm⟩ := qx (u3q (q.num.natAbs * p.den) (p.num.natAbs * q.den))
  have HM3 := hdd (fun w' u v (h1 : IsW w' u (q2q (q.num.natAbs * p.den))) (h2 : IsW w' v (q2q (p.num.natAbs * q.den))) => s6q (w := w') h1 h2)
  rw [← hcm] at HM3
  have hcb : -1 ≤ cm ∧ cm ≤ 1 := by rw [hcm]; unfold u3q; split <;> (try split) <;> omega
  have hsb9 : -1 ≤ sa ∧ sa ≤ 1 := by
   rw [HSA.o]
   rcases Int.lt_trichotomy q.num 0 with h | h | h
   ·
    rw [Int.sign_eq_neg_one_of_neg h]; omega
   ·
    rw [h]; simp
   ·
    rw [Int.sign_eq_one_of_pos h]; omega
  have hpr : -1 ≤ cm * sa ∧ cm * sa ≤ 1 := by
   obtain ⟨h1, h2⟩ := hcb
   obtain ⟨h3, h4⟩ := hsb9
   have h5 : cm = -1 ∨ cm = 0 ∨ cm = 1 := by omega
   rcases h5 with h | h | h <;> subst h <;> omega
  have hwm : IntKind.i64.wrap (cm * sa) = cm * sa := IntWalk.i64_in _ (by omega)
  have HCM := hdd hcm
  clear hcm hcb hsb9
  go_region_held3 (fun w' => w'.cell? ⟨w.heap.size, 0, none⟩ = some (.slice ua un uc) ∧ w'.cell? ⟨w.heap.size, 1, none⟩ = some (.bool b) ∧ w'.cell? ⟨w.heap.size, 2, none⟩ = some (.slice da dn dc) ∧ w'.cell? ⟨w.heap.size + 1, 0, none⟩ = some (.slice va vn vc) ∧ w'.cell? ⟨w.heap.size + 1, 1, none⟩ = some (.bool c) ∧ w'.cell? ⟨w.heap.size + 1, 2, none⟩ = some (.slice ea en ec))
   (((try dsimp only); refine ⟨?_, ?_, ?_, ?_, ?_, ?_⟩ <;> (first | exact R1.o _ _ rfl _ (by assumption) | exact R2.o _ _ rfl _ (by assumption) | go_keep)))
   (first | (go_at_call_of 157 (Value.slice ua un uc); refine (HM1.o _ hz4).mono ?_; rintro en5 w5 ⟨⟨r5, rfl, hr5, hro5⟩, hb5⟩; obtain ⟨a5, n5, k5, he5⟩ := hr5.form; subst he5; have hz5 := q0q hz4 hb5) | (go_at_call 157; refine (HM2.o _ hz5).mono ?_; rintro en6 w6 ⟨⟨r6, rfl, hr6, hro6⟩, hb6⟩; obtain ⟨a6, n6, k6, he6⟩ := hr6.form; subst he6; have hz6 := q0q hz5 hb6) | (go_at_call 122; refine (HM3.o _ _ _ (hr5.below hb6) hr6).mono ?_; rintro en7 w7 ⟨rfl, n7, rfl⟩; have hz7 := q5q hz6 n7))
  clear c0 c1 c2 e0 e1 e2 hz4 hz5 hz6 hr5 hr6 hro5 hro6 hb5 hb6
  have c0 := R1.o 0 _ rfl _ hz7
  have c1 := R1.o 1 _ rfl _ hz7
  have c2 := R1.o 2 _ rfl _ hz7
  go_wp2_with fail
  refine (j1w (HU1.o.below hz7) HBQ.o HSA.o).mono ?_
  rintro en8 w8 ⟨rfl, hb8⟩
  go_wp2_with fail
  go_ret
  refine ⟨g4q ?_, q0q HB1.o (q0q hz7 hb8)⟩
  have h9 := HS.o
  rw [HSA.o, HSB.o] at h9
  have h8 := u5y q p h9
  rw [← HCM.o, ← HSA.o] at h8
  first | exact h8 | (rw [hwm]; exact h8)
 ·
  have hne : ((sa : Int) != sb) = true := by simp [hs]
  have HS := hdd hs
  clear hs
  go_wp2_with fail
  go_region_held3 (fun w' => w'.cell? ⟨w.heap.size, 0, none⟩ = some (.slice ua un uc) ∧ w'.cell? ⟨w.heap.size, 1, none⟩ = some (.bool b) ∧ w'.cell? ⟨w.heap.size, 2, none⟩ = some (.slice da dn dc) ∧ w'.cell? ⟨w.heap.size + 1, 0, none⟩ = some (.slice va vn vc) ∧ w'.cell? ⟨w.heap.size + 1, 1, none⟩ = some (.bool c) ∧ w'.cell? ⟨w.heap.size + 1, 2, none⟩ = some (.slice ea en ec))
   (((try dsimp only); refine ⟨?_, ?_, ?_, ?_, ?_, ?_⟩ <;> (first | exact R1.o _ _ rfl _ (by assumption) | exact R2.o _ _ rfl _ (by assumption) | go_keep)))
   (first | (go_at_call_of 107 (Value.slice ua un uc); refine (j1w (HU1.o.below hzd) HBQ.o HSA.o).mono ?_; rintro en2 w2 ⟨rfl, hb2⟩; have hz2 := q0q hzd hb2) | (go_at_call 107; refine (j1w (HV1.o.below hz2) HCQ.o HSB.o).mono ?_; rintro en3 w3 ⟨rfl, hb3⟩; have hz3 := q0q hz2 hb3))
  go_wp2_with fail
  refine (y1k _ _ _).mono ?_
  rintro e w' ⟨rfl, rfl⟩
  go_wp2_with fail
  go_ret
  refine ⟨g4q ?_, q0q HB1.o hz3⟩
  have h9 := HS.o
  rw [HSA.o, HSB.o] at h9
  have h8 := u5z q p h9
  rw [HSA.o, HSB.o]
  exact h8

theorem x7k {x : Nat} (hv : IsW w v (q2q x)) (hz : z = if b then -(x : Int) else x) (hc : c = decide (z < 0)) :
  Calls Tryz.prog 114 #[v, .bool b] w fun e w' => e = .returned (.agg #[v, .bool c]) ∧ Below w.heap.size w w' := by
 refine (a5q hv b).mono ?_
 rintro e w' ⟨rfl, hb⟩
 refine ⟨?_, hb⟩
 rw [hc, hz]
 congr 4
 cases b with
 | false => simp
 | true => by_cases h : x = 0 <;> simp [g7q, h] <;> omega
theorem u2w {x : Nat} (hz : z = if b then -(x : Int) else x) : z.natAbs = x := by
 rw [hz]; cases b <;> simp

end Go.Proofs.YtkkbmlkpgknhgaaGreat
