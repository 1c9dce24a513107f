/- Several texts in one: J3. -/
import Derived.Test.YtafenoohjcpjgaaGreatZ19
import Derived.Deep.DrawnRows
/- Right, of the program and of the reference. -/
namespace Go.Proofs.YtafenoohjcpjgaaGreat
open Go.RowKit
attribute [local go_sem ↓] Go.wp_at_zero Go.wp_at_succ

/-- Is a row right in a program of so many variables? -/
def okRow (z : Int) (r : List Rat × Int × Rat) : Bool := decide ((r.1.length : Int) = z ∧ -1 ≤ r.2.1 ∧ r.2.1 ≤ 1)
def headP (P : Pm) : Bool := decide (1 ≤ P.vars ∧ (P.free.length : Int) = P.vars ∧ (P.goal.length : Int) = P.vars)
def rightB2 (P : Pm) : Bool := headP P && P.rows.all (okRow P.vars)
/-- What Right tells of a program that is not too large. -/
def rightP (P : Pm) : Int := if rightB2 P then 0 else 20
theorem RowsPF.at {N : Nat} {w : World} {a : Option Addr} {rs : List (List Rat × Int × Rat)} (h : RowsPF N w a rs) {i : Nat} (hi : i < rs.length) :
    ∃ r B off a1 c1 b a2 n2 c2 a3 n3 c3, rs[i]? = some r ∧ a = some ⟨B, off, none⟩ ∧ ListF N w (.slice a1 r.1.length c1) r.1 ∧ FewF N w (.agg #[.bool b, .slice a2 n2 c2, .slice a3 n3 c3]) r.2.2 ∧ -9223372036854775808 ≤ r.2.1 ∧ r.2.1 ≤ 9223372036854775807 ∧
      ∀ w', Below w.heap.size w w' → w'.cell? ⟨B, off + i * 5, none⟩ = some (.slice a1 r.1.length c1) ∧ w'.cell? ⟨B, off + i * 5 + 1, none⟩ = some (.int .i64 r.2.1) ∧ w'.cell? ⟨B, off + i * 5 + 2, none⟩ = some (.bool b) ∧ w'.cell? ⟨B, off + i * 5 + 3, none⟩ = some (.slice a2 n2 c2) ∧ w'.cell? ⟨B, off + i * 5 + 4, none⟩ = some (.slice a3 n3 c3) := by
  obtain ⟨B, off, ha, a1, c1, b, a2, n2, c2, a3, n3, c3, h0, h1, h2, h3, h4, hl, hf, hz1, hz2⟩ := h i _ (List.getElem?_eq_getElem hi)
  exact ⟨rs[i], B, off, a1, c1, b, a2, n2, c2, a3, n3, c3, List.getElem?_eq_getElem hi, ha, hl, hf, hz1, hz2, fun w' hb => ⟨cell_below hb h0, cell_below hb h1, cell_below hb h2, cell_below hb h3, cell_below hb h4⟩⟩
theorem all_rows {P : Pm} (h : ∀ x r, x < P.rows.length → P.rows[x]? = some r → okRow P.vars r = true) : P.rows.all (okRow P.vars) = true := by
  rw [List.all_eq_true]
  intro r hr
  obtain ⟨i, hi, rfl⟩ := List.mem_iff_getElem.1 hr
  exact h i _ hi (List.getElem?_eq_getElem hi)
theorem not_all {P : Pm} {x : Nat} {r : List Rat × Int × Rat} (hx : P.rows[x]? = some r) (h : okRow P.vars r = false) : rightB2 P = false := by
  unfold rightB2
  cases ha : P.rows.all (okRow P.vars) with
  | false => simp
  | true =>
    rw [List.all_eq_true] at ha
    rw [ha r (List.mem_of_getElem? hx)] at h
    cases h
/-- A program is not too large. -/
def Fit (P : Pm) : Prop := P.vars ≤ 160 ∧ P.rows.length ≤ 400 ∧ P.free.length ≤ 1000 ∧ P.goal.length ≤ 1000
theorem prog_one {z : Int} {fa ga ra : Option Addr} {fn fc gn gc rn rc : Nat} : ∀ v ∈ (#[Value.int .i64 z, Value.slice fa fn fc, Value.slice ga gn gc, Value.slice ra rn rc] : Array Value).toList, v.oneCell' = true := by
  intro v hv; simp at hv; rcases hv with rfl | rfl | rfl | rfl <;> rfl

set_option maxRecDepth 8000 in
set_option maxHeartbeats 4000000 in
theorem pright_w {N : Nat} {w : World} {v : Value} {P : Pm} (h : ProgF N w v P) (hf : Fit P) :
    Calls Tryz.prog 17 #[v] w fun e w' => e = .returned (.int .i64 (rightP P)) ∧ Below w.heap.size w w' := by
  obtain ⟨fa, fc, ga, gc, ra, rc, rfl, hz1, hz2, -, -, hR⟩ := h
  have HR := Lib.hid hR
  obtain ⟨z, hz⟩ : ∃ z, z = P.vars := ⟨_, rfl⟩
  obtain ⟨fn, hfn⟩ : ∃ n, n = P.free.length := ⟨_, rfl⟩
  obtain ⟨gn, hgn⟩ : ∃ n, n = P.goal.length := ⟨_, rfl⟩
  obtain ⟨rn, hrn⟩ : ∃ n, n = P.rows.length := ⟨_, rfl⟩
  obtain ⟨h160, h400, hf1, hg1⟩ := hf
  rw [← hz] at h160 hz1 hz2 ⊢
  rw [← hfn] at hf1 ⊢
  rw [← hgn] at hg1 ⊢
  rw [← hrn] at h400 ⊢
  have HZ := Lib.hid hz
  have HRN := Lib.hid hrn
  have HHEAD : Hid (headP P = decide (1 ≤ z ∧ (fn : Int) = z ∧ (gn : Int) = z)) := Lib.hid (by unfold headP; rw [hz, hfn, hgn])
  obtain ⟨w1, hw1⟩ : ∃ w1, w1 = w.alloc (Obj.cells #[Value.int .i64 z, Value.slice fa fn fc, Value.slice ga gn gc, Value.slice ra rn rc] 26) := ⟨_, rfl⟩
  have HB1 : Hid (Below w.heap.size w w1) := Lib.hid (by rw [hw1]; exact (Below.refl _ _).alloc (Nat.le_refl _) _)
  have HX : Hid (ProgB w1 w.heap.size z fa fn fc ga gn gc ra rn rc) := Lib.hid (by rw [hw1]; exact heap_alloc_new w _)
  have HW1 := Lib.hid hw1.symm
  clear hw1 hR hz hfn hgn hrn
  have RX := Lib.hid (cells_later HX.out)
  have hb1 := Below.refl w1.heap.size w1
  have x0 := RX.out 0 _ rfl _ hb1
  have x1 := RX.out 1 _ rfl _ hb1
  have x2 := RX.out 2 _ rfl _ hb1
  have x3 := RX.out 3 _ rfl _ hb1
  have t1 : decide ((160 : Int) < z) = false := by simp; omega
  have t2 : decide ((400 : Int) < (rn : Int)) = false := by simp; omega
  by_cases h3 : z < 1
  · have t3 : decide (z < 1) = true := by simpa using h3
    have HE : Hid (rightP P = 20) := Lib.hid (by
      have e9 : headP P = false := by rw [HHEAD.out]; simp; omega
      unfold rightP rightB2; rw [e9]; rfl)
    clear h3
    go_enter Tryz.func17, Tryz.ntmps17
    go_wp2_with fail
    rw [HW1.out]
    go_ret
    exact ⟨by rw [HE.out]; first | done | rfl, HB1.out⟩
  have t3 : decide (z < 1) = false := by simpa using h3
  by_cases h4 : ¬ (fn : Int) = z
  · have t4 : ((fn : Int) != z) = true := by simpa using h4
    have HE : Hid (rightP P = 20) := Lib.hid (by
      have e9 : headP P = false := by rw [HHEAD.out]; simp; omega
      unfold rightP rightB2; rw [e9]; rfl)
    clear h3 h4
    go_enter Tryz.func17, Tryz.ntmps17
    go_wp2_with fail
    rw [HW1.out]
    go_ret
    exact ⟨by rw [HE.out]; first | done | rfl, HB1.out⟩
  have t4 : ((fn : Int) != z) = false := by simpa using h4
  by_cases h5 : ¬ (gn : Int) = z
  · have t5 : ((gn : Int) != z) = true := by simpa using h5
    have HE : Hid (rightP P = 20) := Lib.hid (by
      have e9 : headP P = false := by rw [HHEAD.out]; simp; omega
      unfold rightP rightB2; rw [e9]; rfl)
    clear h3 h4 h5
    go_enter Tryz.func17, Tryz.ntmps17
    go_wp2_with fail
    rw [HW1.out]
    go_ret
    exact ⟨by rw [HE.out]; first | done | rfl, HB1.out⟩
  have t5 : ((gn : Int) != z) = false := by simpa using h5
  have HH : Hid (headP P = true) := Lib.hid (by rw [HHEAD.out]; simp; omega)
  have HZN : Hid (1 ≤ z ∧ (fn : Int) = z ∧ (gn : Int) = z) := Lib.hid ⟨by omega, by omega, by omega⟩
  clear h3 h4 h5
  go_enter Tryz.func17, Tryz.ntmps17
  go_wp2_with fail
  rw [HW1.out]
  go_loopw [36] (fun iv wr => ∃ i : Nat, i ≤ rn ∧ iv = .int .i64 i ∧ Hid (∀ x r, x < i → P.rows[x]? = some r → okRow z r = true) ∧ Hid (Below w1.heap.size w1 wr)) (fun iv _ => rn - (intOf iv).toNat)
  case atStart => exact ⟨0, Nat.zero_le _, rfl, Lib.hid (fun x r h => absurd h (Nat.not_lt_zero x)), Lib.hid hb1⟩
  case round =>
    obtain ⟨i, hi, rfl, hd, hB⟩ := hrel
    obtain ⟨wo, rfl⟩ : ∃ wo : World, wo = wr := ⟨_, rfl⟩
    by_cases hin : i < rn
    · have t6 : decide ((i : Int) < (rn : Int)) = true := by simp; omega
      obtain ⟨r, B, off, a1, c1, b, a2, n2, c2, a3, n3, c3, hr, ha, -, -, hz3, hz4, hc⟩ := HR.out.at (i := i) (by have := HRN.out; omega)
      subst ha
      obtain ⟨f0, f1, f2, f3, f4⟩ := hc wo (below_trans HB1.out hB.out)
      have HRI := Lib.hid hr
      obtain ⟨n1, hn1⟩ : ∃ n, n = r.1.length := ⟨_, rfl⟩
      obtain ⟨sn, hsn⟩ : ∃ n, n = r.2.1 := ⟨_, rfl⟩
      rw [← hn1] at f0
      rw [← hsn] at f1 hz3 hz4
      have HOK : Hid (okRow z r = decide ((n1 : Int) = z ∧ -1 ≤ sn ∧ sn ≤ 1)) := Lib.hid (by unfold okRow; rw [hn1, hsn])
      clear hc hr hn1 hsn
      go_wp2_with ((with_reducible refine at_store ?_); refine wpList_store_var rfl _ _ _ rfl wo.heap.size rfl _ rfl _ _ (heap_alloc_new _ _) irow rfl row_one ?_; intro w4 h4 hon4; refine halt ?_)
      have hb4 : Below wo.heap.size wo w4 := below_only ((Below.refl _ _).alloc (Nat.le_refl _) _) hon4 (Nat.le_refl _)
      have HB4 := Lib.hid (below_trans hB.out hb4)
      have RY := Lib.hid (cells_later h4)
      have hb5 := Below.refl w4.heap.size w4
      have y0 := RY.out 0 _ rfl _ hb5
      have y1 := RY.out 1 _ rfl _ hb5
      have y2 := RY.out 2 _ rfl _ hb5
      have y3 := RY.out 3 _ rfl _ hb5
      have y4 := RY.out 4 _ rfl _ hb5
      have x0 := RX.out 0 _ rfl _ HB4.out
      have x1 := RX.out 1 _ rfl _ HB4.out
      have x2 := RX.out 2 _ rfl _ HB4.out
      have x3 := RX.out 3 _ rfl _ HB4.out
      clear h4 hon4 hb4 f0 f1 f2 f3 f4
      refine go_on ?_
      have HBAD : Hid (okRow z r = false → rightP P = 20) := Lib.hid (fun h9 => by
        have e9 : rightB2 P = false := not_all HRI.out (by rw [← HZ.out]; exact h9)
        unfold rightP; rw [e9]; rfl)
      by_cases h6 : (n1 : Int) = z
      · have u6 : ((n1 : Int) != z) = false := by simpa using h6
        rcases (show sn = -1 ∨ sn = 0 ∨ sn = 1 ∨ (¬ sn = -1 ∧ ¬ sn = 0 ∧ ¬ sn = 1) by omega) with h7 | h7 | h7 | ⟨h7, h8, h9⟩
        · have u7 : (sn != -1) = false := by simp [h7]
          have HD : Hid (∀ x r', x < i + 1 → P.rows[x]? = some r' → okRow z r' = true) := Lib.hid (fun x r' hx hr => by
            by_cases e : x = i
            · subst e
              rw [HRI.out] at hr
              cases hr
              rw [HOK.out]; simp; omega
            · exact hd.out x r' (by omega) hr)
          clear h6 h7
          go_wp2_with fail
          go_roundw
          case rel => exact ⟨i + 1, by omega, by go_num, HD, HB4⟩
          case measure => simp [intOf]; omega
        · have u7 : (sn != -1) = true := by simp [h7]
          have u8 : (sn != 0) = false := by simp [h7]
          have HD : Hid (∀ x r', x < i + 1 → P.rows[x]? = some r' → okRow z r' = true) := Lib.hid (fun x r' hx hr => by
            by_cases e : x = i
            · subst e
              rw [HRI.out] at hr
              cases hr
              rw [HOK.out]; simp; omega
            · exact hd.out x r' (by omega) hr)
          clear h6 h7
          go_wp2_with fail
          go_roundw
          case rel => exact ⟨i + 1, by omega, by go_num, HD, HB4⟩
          case measure => simp [intOf]; omega
        · have u7 : (sn != -1) = true := by simp [h7]
          have u8 : (sn != 0) = true := by simp [h7]
          have u9 : (sn != 1) = false := by simp [h7]
          have HD : Hid (∀ x r', x < i + 1 → P.rows[x]? = some r' → okRow z r' = true) := Lib.hid (fun x r' hx hr => by
            by_cases e : x = i
            · subst e
              rw [HRI.out] at hr
              cases hr
              rw [HOK.out]; simp; omega
            · exact hd.out x r' (by omega) hr)
          clear h6 h7
          go_wp2_with fail
          go_roundw
          case rel => exact ⟨i + 1, by omega, by go_num, HD, HB4⟩
          case measure => simp [intOf]; omega
        · have u7 : (sn != -1) = true := by simpa using h7
          have u8 : (sn != 0) = true := by simpa using h8
          have u9 : (sn != 1) = true := by simpa using h9
          have HE := Lib.hid (HBAD.out (by rw [HOK.out]; simp; omega))
          clear h6 h7 h8 h9
          go_wp2_with fail
          go_ret
          exact ⟨by rw [HE.out]; first | done | rfl, below_trans HB1.out HB4.out⟩
      · have u6 : ((n1 : Int) != z) = true := by simpa using h6
        have HE := Lib.hid (HBAD.out (by rw [HOK.out]; simp; omega))
        clear h6
        go_wp2_with fail
        go_ret
        exact ⟨by rw [HE.out]; first | done | rfl, below_trans HB1.out HB4.out⟩
    · have t6 : decide ((i : Int) < (rn : Int)) = false := by simp; omega
      have HE : Hid (rightP P = 0) := Lib.hid (by
        have e9 : P.rows.all (okRow P.vars) = true := all_rows (fun x r hx hr => by rw [← HZ.out]; exact hd.out x r (by have := HRN.out; omega) hr)
        unfold rightP rightB2; rw [HH.out, e9]; rfl)
      go_wp2_with fail
      go_ret
      exact ⟨by rw [HE.out]; first | done | rfl, below_trans HB1.out hB.out⟩

set_option maxRecDepth 8000 in
set_option maxHeartbeats 4000000 in
theorem rright2_w {N : Nat} {w : World} {v : Value} {P : Pm} (h : ProgF N w v P) (hf : Fit P) :
    Calls Tryz.prog 23 #[v] w fun e w' => e = .returned (.int .i64 (rightP P)) ∧ Below w.heap.size w w' := by
  obtain ⟨fa, fc, ga, gc, ra, rc, rfl, hz1, hz2, -, -, hR⟩ := h
  have HR := Lib.hid hR
  obtain ⟨z, hz⟩ : ∃ z, z = P.vars := ⟨_, rfl⟩
  obtain ⟨fn, hfn⟩ : ∃ n, n = P.free.length := ⟨_, rfl⟩
  obtain ⟨gn, hgn⟩ : ∃ n, n = P.goal.length := ⟨_, rfl⟩
  obtain ⟨rn, hrn⟩ : ∃ n, n = P.rows.length := ⟨_, rfl⟩
  obtain ⟨h160, h400, hf1, hg1⟩ := hf
  rw [← hz] at h160 hz1 hz2 ⊢
  rw [← hfn] at hf1 ⊢
  rw [← hgn] at hg1 ⊢
  rw [← hrn] at h400 ⊢
  have HZ := Lib.hid hz
  have HRN := Lib.hid hrn
  have HHEAD : Hid (headP P = decide (1 ≤ z ∧ (fn : Int) = z ∧ (gn : Int) = z)) := Lib.hid (by unfold headP; rw [hz, hfn, hgn])
  obtain ⟨w1, hw1⟩ : ∃ w1, w1 = w.alloc (Obj.cells #[Value.int .i64 z, Value.slice fa fn fc, Value.slice ga gn gc, Value.slice ra rn rc] 26) := ⟨_, rfl⟩
  have HB1 : Hid (Below w.heap.size w w1) := Lib.hid (by rw [hw1]; exact (Below.refl _ _).alloc (Nat.le_refl _) _)
  have HX : Hid (ProgB w1 w.heap.size z fa fn fc ga gn gc ra rn rc) := Lib.hid (by rw [hw1]; exact heap_alloc_new w _)
  have HW1 := Lib.hid hw1.symm
  clear hw1 hR hz hfn hgn hrn
  have RX := Lib.hid (cells_later HX.out)
  have hb1 := Below.refl w1.heap.size w1
  have x0 := RX.out 0 _ rfl _ hb1
  have x1 := RX.out 1 _ rfl _ hb1
  have x2 := RX.out 2 _ rfl _ hb1
  have x3 := RX.out 3 _ rfl _ hb1
  have t1 : decide ((160 : Int) < z) = false := by simp; omega
  have t2 : decide ((400 : Int) < (rn : Int)) = false := by simp; omega
  by_cases h3 : z < 1
  · have t3 : decide (z < 1) = true := by simpa using h3
    have HE : Hid (rightP P = 20) := Lib.hid (by
      have e9 : headP P = false := by rw [HHEAD.out]; simp; omega
      unfold rightP rightB2; rw [e9]; rfl)
    clear h3
    go_enter Tryz.func23, Tryz.ntmps23
    go_wp2_with fail
    rw [HW1.out]
    go_ret
    exact ⟨by rw [HE.out]; first | done | rfl, HB1.out⟩
  have t3 : decide (z < 1) = false := by simpa using h3
  by_cases h4 : ¬ (fn : Int) = z
  · have t4 : ((fn : Int) != z) = true := by simpa using h4
    have HE : Hid (rightP P = 20) := Lib.hid (by
      have e9 : headP P = false := by rw [HHEAD.out]; simp; omega
      unfold rightP rightB2; rw [e9]; rfl)
    clear h3 h4
    go_enter Tryz.func23, Tryz.ntmps23
    go_wp2_with fail
    rw [HW1.out]
    go_ret
    exact ⟨by rw [HE.out]; first | done | rfl, HB1.out⟩
  have t4 : ((fn : Int) != z) = false := by simpa using h4
  by_cases h5 : ¬ (gn : Int) = z
  · have t5 : ((gn : Int) != z) = true := by simpa using h5
    have HE : Hid (rightP P = 20) := Lib.hid (by
      have e9 : headP P = false := by rw [HHEAD.out]; simp; omega
      unfold rightP rightB2; rw [e9]; rfl)
    clear h3 h4 h5
    go_enter Tryz.func23, Tryz.ntmps23
    go_wp2_with fail
    rw [HW1.out]
    go_ret
    exact ⟨by rw [HE.out]; first | done | rfl, HB1.out⟩
  have t5 : ((gn : Int) != z) = false := by simpa using h5
  have HH : Hid (headP P = true) := Lib.hid (by rw [HHEAD.out]; simp; omega)
  have HZN : Hid (1 ≤ z ∧ (fn : Int) = z ∧ (gn : Int) = z) := Lib.hid ⟨by omega, by omega, by omega⟩
  clear h3 h4 h5
  go_enter Tryz.func23, Tryz.ntmps23
  go_wp2_with fail
  rw [HW1.out]
  go_loopw [36] (fun iv wr => ∃ i : Nat, i ≤ rn ∧ iv = .int .i64 i ∧ Hid (∀ x r, x < i → P.rows[x]? = some r → okRow z r = true) ∧ Hid (Below w1.heap.size w1 wr)) (fun iv _ => rn - (intOf iv).toNat)
  case atStart => exact ⟨0, Nat.zero_le _, rfl, Lib.hid (fun x r h => absurd h (Nat.not_lt_zero x)), Lib.hid hb1⟩
  case round =>
    obtain ⟨i, hi, rfl, hd, hB⟩ := hrel
    obtain ⟨wo, rfl⟩ : ∃ wo : World, wo = wr := ⟨_, rfl⟩
    by_cases hin : i < rn
    · have t6 : decide ((i : Int) < (rn : Int)) = true := by simp; omega
      obtain ⟨r, B, off, a1, c1, b, a2, n2, c2, a3, n3, c3, hr, ha, -, -, hz3, hz4, hc⟩ := HR.out.at (i := i) (by have := HRN.out; omega)
      subst ha
      obtain ⟨f0, f1, f2, f3, f4⟩ := hc wo (below_trans HB1.out hB.out)
      have HRI := Lib.hid hr
      obtain ⟨n1, hn1⟩ : ∃ n, n = r.1.length := ⟨_, rfl⟩
      obtain ⟨sn, hsn⟩ : ∃ n, n = r.2.1 := ⟨_, rfl⟩
      rw [← hn1] at f0
      rw [← hsn] at f1 hz3 hz4
      have HOK : Hid (okRow z r = decide ((n1 : Int) = z ∧ -1 ≤ sn ∧ sn ≤ 1)) := Lib.hid (by unfold okRow; rw [hn1, hsn])
      clear hc hr hn1 hsn
      go_wp2_with ((with_reducible refine at_store ?_); refine wpList_store_var rfl _ _ _ rfl wo.heap.size rfl _ rfl _ _ (heap_alloc_new _ _) irow rfl row_one ?_; intro w4 h4 hon4; refine halt ?_)
      have hb4 : Below wo.heap.size wo w4 := below_only ((Below.refl _ _).alloc (Nat.le_refl _) _) hon4 (Nat.le_refl _)
      have HB4 := Lib.hid (below_trans hB.out hb4)
      have RY := Lib.hid (cells_later h4)
      have hb5 := Below.refl w4.heap.size w4
      have y0 := RY.out 0 _ rfl _ hb5
      have y1 := RY.out 1 _ rfl _ hb5
      have y2 := RY.out 2 _ rfl _ hb5
      have y3 := RY.out 3 _ rfl _ hb5
      have y4 := RY.out 4 _ rfl _ hb5
      have x0 := RX.out 0 _ rfl _ HB4.out
      have x1 := RX.out 1 _ rfl _ HB4.out
      have x2 := RX.out 2 _ rfl _ HB4.out
      have x3 := RX.out 3 _ rfl _ HB4.out
      clear h4 hon4 hb4 f0 f1 f2 f3 f4
      refine go_on ?_
      have HBAD : Hid (okRow z r = false → rightP P = 20) := Lib.hid (fun h9 => by
        have e9 : rightB2 P = false := not_all HRI.out (by rw [← HZ.out]; exact h9)
        unfold rightP; rw [e9]; rfl)
      by_cases h6 : (n1 : Int) = z
      · have u6 : ((n1 : Int) != z) = false := by simpa using h6
        rcases (show sn < -1 ∨ (¬ sn < -1 ∧ 1 < sn) ∨ (¬ sn < -1 ∧ ¬ 1 < sn) by omega) with h7 | ⟨h7, h8⟩ | ⟨h7, h8⟩
        · have u7 : decide (sn < -1) = true := by simpa using h7
          have HE := Lib.hid (HBAD.out (by rw [HOK.out]; simp; omega))
          clear h6 h7
          go_wp2_with fail
          go_ret
          exact ⟨by rw [HE.out]; first | done | rfl, below_trans HB1.out HB4.out⟩
        · have u7 : decide (sn < -1) = false := by simpa using h7
          have u8 : decide (1 < sn) = true := by simpa using h8
          have HE := Lib.hid (HBAD.out (by rw [HOK.out]; simp; omega))
          clear h6 h7 h8
          go_wp2_with fail
          go_ret
          exact ⟨by rw [HE.out]; first | done | rfl, below_trans HB1.out HB4.out⟩
        · have u7 : decide (sn < -1) = false := by simpa using h7
          have u8 : decide (1 < sn) = false := by simpa using h8
          have HD : Hid (∀ x r', x < i + 1 → P.rows[x]? = some r' → okRow z r' = true) := Lib.hid (fun x r' hx hr => by
            by_cases e : x = i
            · subst e
              rw [HRI.out] at hr
              cases hr
              rw [HOK.out]; simp; omega
            · exact hd.out x r' (by omega) hr)
          clear h6 h7 h8
          go_wp2_with fail
          go_roundw
          case rel => exact ⟨i + 1, by omega, by go_num, HD, HB4⟩
          case measure => simp [intOf]; omega
      · have u6 : ((n1 : Int) != z) = true := by simpa using h6
        have HE := Lib.hid (HBAD.out (by rw [HOK.out]; simp; omega))
        clear h6
        go_wp2_with fail
        go_ret
        exact ⟨by rw [HE.out]; first | done | rfl, below_trans HB1.out HB4.out⟩
    · have t6 : decide ((i : Int) < (rn : Int)) = false := by simp; omega
      have HE : Hid (rightP P = 0) := Lib.hid (by
        have e9 : P.rows.all (okRow P.vars) = true := all_rows (fun x r hx hr => by rw [← HZ.out]; exact hd.out x r (by have := HRN.out; omega) hr)
        unfold rightP rightB2; rw [HH.out, e9]; rfl)
      go_wp2_with fail
      go_ret
      exact ⟨by rw [HE.out]; first | done | rfl, below_trans HB1.out hB.out⟩
end Go.Proofs.YtafenoohjcpjgaaGreat
