/- frac.Print: the walk. -/
import Derived.Test.YtlmnicpkncgbiaaSc
import Derived.Test.YtlmnicpkncgbiaaLd
namespace Go.Proofs.Ytlmnicpkncgbiaa
open Go.RowKit

theorem own_form {w : World} {base : Nat} {v : Value} {L : List Nat} (h : OwnB w base v L) : ∃ g n c, v = .slice g n c := by
  rcases h.2 with ⟨rfl, _⟩ | ⟨g, cap, cur, rfl, _⟩
  · exact ⟨_, _, _, rfl⟩
  · exact ⟨_, _, _, rfl⟩
theorem rat_one' {b : Bool} {a i : Option Addr} {n c j k : Nat} : ∀ v ∈ (#[Value.slice a n c, Value.bool b, Value.slice i j k] : Array Value).toList, v.oneCell' = true := by
  intro v hv; simp at hv; rcases hv with rfl | rfl | rfl <;> rfl

theorem dec_ne (x : Nat) : decS x ≠ [] := by
  unfold decS
  by_cases h : x = 0
  · rw [if_pos h]; simp
  · rw [if_neg h]
    intro e
    have h1 := congrArg List.length e
    rw [List.length_reverse, bw_len, ndig_pos h] at h1
    simp at h1
theorem dec_len {x : Nat} (h : (digs x).length ≤ 4096) : (decS x).length ≤ 50000 := by
  unfold decS
  by_cases h0 : x = 0
  · rw [if_pos h0]; simp
  · rw [if_neg h0, List.length_reverse, bw_len]
    have h1 : x < 4294967296 ^ (digs x).length := len_digs_le.1 (Nat.le_refl _)
    generalize (digs x).length = n at h h1
    have h2 : 4294967296 ^ n ≤ (10 ^ 11) ^ n := Nat.pow_le_pow_left (by decide) n
    rw [← Nat.pow_mul] at h2
    have h3 : ndig x ≤ 11 * n := ndig_le.2 (Nat.lt_of_lt_of_le h1 h2)
    omega

set_option maxRecDepth 4000 in
set_option maxHeartbeats 2000000 in
theorem print_w {w : World} {v : Value} {b : Bool} {l m : List Nat} (hv : RawF w v b l m) :
    Calls Try.prog 41 #[v] w fun e w' => e = .returned (.string (strL (printL (fixR b l m)))) ∧ Below w.heap.size w w' := by
  have HV := Lib.hid hv
  have HL1 : Hid (lenQ (fixR b l m) ≤ 4096) := Lib.hid (by obtain ⟨u, d, rfl, hu, hd⟩ := hv; exact fix_len hu.ws hd.ws)
  obtain ⟨u, d, rfl, hu, hd⟩ := hv
  obtain ⟨va, vn, vc, hve⟩ := hu.form
  subst hve
  obtain ⟨ea, en, ec, hee⟩ := hd.form
  subst hee
  clear hu hd
  obtain ⟨P, hP⟩ : ∃ P, P = fixR b l m := ⟨_, rfl⟩
  have HP := Lib.hid hP
  rw [← hP] at HL1
  rw [← hP]
  clear hP
  have HLN : Hid ((digs P.num.natAbs).length ≤ 4096) := Lib.hid (by have := num_len P; have := HL1.out; omega)
  have HLD : Hid ((digs P.den).length ≤ 4096) := Lib.hid (by have := den_len P; have := HL1.out; omega)
  have HDN : Hid ((decS P.num.natAbs).length ≤ 50000) := Lib.hid (dec_len HLN.out)
  have HDD : Hid ((decS P.den).length ≤ 50000) := Lib.hid (dec_len HLD.out)
  have HB0 : Hid (∀ o, Below w.heap.size w (w.alloc o)) := Lib.hid (fun o => (Below.refl _ _).alloc (Nat.le_refl _) o)
  obtain ⟨bn, hbn⟩ : ∃ x, x = decide (P.num < 0) := ⟨_, rfl⟩
  have HBN := Lib.hid hbn
  have HPL0 : Hid (printL P = headL bn ++ decS P.num.natAbs ++ tailL P) := Lib.hid (by unfold printL; rw [hbn])
  clear hbn
  by_cases hone : P.den = 1
  · have HON : Hid (oneB P.den = true) := Lib.hid (by unfold oneB; simpa using hone)
    have HTL : Hid (tailL P = []) := Lib.hid (by unfold tailL; rw [if_pos hone])
    clear hone
    cases bn with
    | true =>
      have HPL : Hid (printL P = [45] ++ decS P.num.natAbs) := Lib.hid (by rw [HPL0.out, HTL.out]; simp [headL])
      go_enter Try.func41, Try.ntmps41
      go_wp2_with fail
      refine (read_w (HV.out.below (HB0.out _))).mono ?_
      rw [← HP.out]
      rintro en1 w1 ⟨⟨r1, rfl, u1, d1, rfl, hu1, hd1⟩, hb1⟩
      obtain ⟨ua, un, uc, hue⟩ := hu1.form
      subst hue
      obtain ⟨da, dn, dc, hde⟩ := hd1.form
      subst hde
      have HU1 := Lib.hid hu1
      have HD1 := Lib.hid hd1
      have HB1 := Lib.hid (below_trans (HB0.out _) hb1)
      rw [← HBN.out]
      clear hu1 hd1 hb1
      go_wp2_with ((with_reducible refine at_store ?_); refine wpList_store_var rfl _ _ _ rfl w1.heap.size rfl _ rfl _ _ (heap_alloc_new _ _) irat rfl rat_one' ?_; intro w2 h2 hon2; refine halt ?_)
      have hb2 : Below w1.heap.size w1 w2 := below_only ((Below.refl _ _).alloc (Nat.le_refl _) _) hon2 (Nat.le_refl _)
      have RR := Lib.hid (cells_later h2)
      have HU2 := Lib.hid (HU1.out.below hb2)
      have HD2 := Lib.hid (HD1.out.below hb2)
      have HB2 := Lib.hid (below_trans HB1.out hb2)
      have hz2 := Below.refl w2.heap.size w2
      clear h2 hon2 hb2
      refine go_on ?_
      have s0 := RR.out 0 _ rfl _ hz2
      have s1 := RR.out 1 _ rfl _ hz2
      have s2 := RR.out 2 _ rfl _ hz2
      have hz2a : Below w2.heap.size w2 (w2.alloc (Obj.cells #[Value.int .u8 45] 5)) := hz2.alloc (Nat.le_refl _) _
      go_wp2_with (at_builtin; refine wpList_app_bytes (w0 := w2) rfl _ _ _ rfl Try.underlying86 iu8 _ [] rfl (OwnB.nil _ _) hz2a w2.heap.size 1 1 [45] rfl rfl (cell_one_new _ _ _) (by simp) ?_; intro v3 w3 ho3 hz3; refine halt ?_)
      rw [List.nil_append] at ho3
      have HO3 := Lib.hid ho3
      clear ho3
      obtain ⟨g3, n3, c3, hq3⟩ : ∃ g n c, v3 = .slice g n c := own_form HO3.out
      subst hq3
      clear s0 s1 s2
      have s0 := RR.out 0 _ rfl _ hz3
      have s1 := RR.out 1 _ rfl _ hz3
      have s2 := RR.out 2 _ rfl _ hz3
      refine go_on ?_
      go_wp2_with fail
      refine (digits_w (HU2.out.below hz3) (by have := HLN.out; omega)).mono ?_
      rintro en4 w4 ⟨⟨r4, rfl, ho4⟩, hb4⟩
      have hz4 := below_trans hz3 hb4
      obtain ⟨g4, c4, rfl, hcl4⟩ := OwnB.form ho4 (dec_ne _)
      have HO4 := Lib.hid (HO3.out.below hb4)
      have HC4 := Lib.hid hcl4
      clear ho4 hcl4
      go_wp2_with (at_builtin; refine wpList_app_bytes (w0 := w2) rfl _ _ _ rfl Try.underlying86 iu8 _ [45] rfl HO4.out hz4 g4 _ c4 _ rfl rfl HC4.out (by have := HDN.out; simp; omega) ?_; intro v5 w5 ho5 hz5; refine halt ?_)
      have HO5 := Lib.hid ho5
      clear ho5
      obtain ⟨g5, n5, c5, hq5⟩ : ∃ g n c, v5 = .slice g n c := own_form HO5.out
      subst hq5
      clear s0 s1 s2
      have s0 := RR.out 0 _ rfl _ hz5
      have s1 := RR.out 1 _ rfl _ hz5
      have s2 := RR.out 2 _ rfl _ hz5
      refine go_on ?_
      go_wp2_with fail
      refine (isOne_w (HD2.out.below hz5)).mono ?_
      rintro en6 w6 ⟨rfl, rfl⟩
      rw [HON.out]
      have hcv := run_bytes_string HO5.out (by simp)
      go_wp2_with fail
      go_ret
      exact ⟨by rw [HPL.out]; simp, below_trans HB2.out hz5⟩
    | false =>
      have HPL : Hid (printL P = [] ++ decS P.num.natAbs) := Lib.hid (by rw [HPL0.out, HTL.out]; simp [headL])
      go_enter Try.func41, Try.ntmps41
      go_wp2_with fail
      refine (read_w (HV.out.below (HB0.out _))).mono ?_
      rw [← HP.out]
      rintro en1 w1 ⟨⟨r1, rfl, u1, d1, rfl, hu1, hd1⟩, hb1⟩
      obtain ⟨ua, un, uc, hue⟩ := hu1.form
      subst hue
      obtain ⟨da, dn, dc, hde⟩ := hd1.form
      subst hde
      have HU1 := Lib.hid hu1
      have HD1 := Lib.hid hd1
      have HB1 := Lib.hid (below_trans (HB0.out _) hb1)
      rw [← HBN.out]
      clear hu1 hd1 hb1
      go_wp2_with ((with_reducible refine at_store ?_); refine wpList_store_var rfl _ _ _ rfl w1.heap.size rfl _ rfl _ _ (heap_alloc_new _ _) irat rfl rat_one' ?_; intro w2 h2 hon2; refine halt ?_)
      have hb2 : Below w1.heap.size w1 w2 := below_only ((Below.refl _ _).alloc (Nat.le_refl _) _) hon2 (Nat.le_refl _)
      have RR := Lib.hid (cells_later h2)
      have HU2 := Lib.hid (HU1.out.below hb2)
      have HD2 := Lib.hid (HD1.out.below hb2)
      have HB2 := Lib.hid (below_trans HB1.out hb2)
      have hz2 := Below.refl w2.heap.size w2
      clear h2 hon2 hb2
      refine go_on ?_
      have s0 := RR.out 0 _ rfl _ hz2
      have s1 := RR.out 1 _ rfl _ hz2
      have s2 := RR.out 2 _ rfl _ hz2
      have HO3 : Hid (OwnB w2 w2.heap.size (.slice none 0 0) []) := Lib.hid (OwnB.nil _ _)
      go_wp2_with fail
      refine (digits_w (HU2.out.below hz2) (by have := HLN.out; omega)).mono ?_
      rintro en4 w4 ⟨⟨r4, rfl, ho4⟩, hb4⟩
      have hz4 := below_trans hz2 hb4
      obtain ⟨g4, c4, rfl, hcl4⟩ := OwnB.form ho4 (dec_ne _)
      have HO4 := Lib.hid (HO3.out.below hb4)
      have HC4 := Lib.hid hcl4
      clear ho4 hcl4
      go_wp2_with (at_builtin; refine wpList_app_bytes (w0 := w2) rfl _ _ _ rfl Try.underlying86 iu8 _ [] rfl HO4.out hz4 g4 _ c4 _ rfl rfl HC4.out (by have := HDN.out; simp; omega) ?_; intro v5 w5 ho5 hz5; refine halt ?_)
      have HO5 := Lib.hid ho5
      clear ho5
      obtain ⟨g5, n5, c5, hq5⟩ : ∃ g n c, v5 = .slice g n c := own_form HO5.out
      subst hq5
      clear s0 s1 s2
      have s0 := RR.out 0 _ rfl _ hz5
      have s1 := RR.out 1 _ rfl _ hz5
      have s2 := RR.out 2 _ rfl _ hz5
      refine go_on ?_
      go_wp2_with fail
      refine (isOne_w (HD2.out.below hz5)).mono ?_
      rintro en6 w6 ⟨rfl, rfl⟩
      rw [HON.out]
      have hcv := run_bytes_string HO5.out (by simp [dec_ne])
      go_wp2_with fail
      go_ret
      exact ⟨by rw [HPL.out]; simp, below_trans HB2.out hz5⟩
  · have HON : Hid (oneB P.den = false) := Lib.hid (by unfold oneB; simpa using hone)
    have HTL : Hid (tailL P = 47 :: decS P.den) := Lib.hid (by unfold tailL; rw [if_neg hone])
    clear hone
    cases bn with
    | true =>
      have HPL : Hid (printL P = [45] ++ decS P.num.natAbs ++ [47] ++ decS P.den) := Lib.hid (by rw [HPL0.out, HTL.out]; simp [headL])
      go_enter Try.func41, Try.ntmps41
      go_wp2_with fail
      refine (read_w (HV.out.below (HB0.out _))).mono ?_
      rw [← HP.out]
      rintro en1 w1 ⟨⟨r1, rfl, u1, d1, rfl, hu1, hd1⟩, hb1⟩
      obtain ⟨ua, un, uc, hue⟩ := hu1.form
      subst hue
      obtain ⟨da, dn, dc, hde⟩ := hd1.form
      subst hde
      have HU1 := Lib.hid hu1
      have HD1 := Lib.hid hd1
      have HB1 := Lib.hid (below_trans (HB0.out _) hb1)
      rw [← HBN.out]
      clear hu1 hd1 hb1
      go_wp2_with ((with_reducible refine at_store ?_); refine wpList_store_var rfl _ _ _ rfl w1.heap.size rfl _ rfl _ _ (heap_alloc_new _ _) irat rfl rat_one' ?_; intro w2 h2 hon2; refine halt ?_)
      have hb2 : Below w1.heap.size w1 w2 := below_only ((Below.refl _ _).alloc (Nat.le_refl _) _) hon2 (Nat.le_refl _)
      have RR := Lib.hid (cells_later h2)
      have HU2 := Lib.hid (HU1.out.below hb2)
      have HD2 := Lib.hid (HD1.out.below hb2)
      have HB2 := Lib.hid (below_trans HB1.out hb2)
      have hz2 := Below.refl w2.heap.size w2
      clear h2 hon2 hb2
      refine go_on ?_
      have s0 := RR.out 0 _ rfl _ hz2
      have s1 := RR.out 1 _ rfl _ hz2
      have s2 := RR.out 2 _ rfl _ hz2
      have hz2a : Below w2.heap.size w2 (w2.alloc (Obj.cells #[Value.int .u8 45] 5)) := hz2.alloc (Nat.le_refl _) _
      go_wp2_with (at_builtin; refine wpList_app_bytes (w0 := w2) rfl _ _ _ rfl Try.underlying86 iu8 _ [] rfl (OwnB.nil _ _) hz2a w2.heap.size 1 1 [45] rfl rfl (cell_one_new _ _ _) (by simp) ?_; intro v3 w3 ho3 hz3; refine halt ?_)
      rw [List.nil_append] at ho3
      have HO3 := Lib.hid ho3
      clear ho3
      obtain ⟨g3, n3, c3, hq3⟩ : ∃ g n c, v3 = .slice g n c := own_form HO3.out
      subst hq3
      clear s0 s1 s2
      have s0 := RR.out 0 _ rfl _ hz3
      have s1 := RR.out 1 _ rfl _ hz3
      have s2 := RR.out 2 _ rfl _ hz3
      refine go_on ?_
      go_wp2_with fail
      refine (digits_w (HU2.out.below hz3) (by have := HLN.out; omega)).mono ?_
      rintro en4 w4 ⟨⟨r4, rfl, ho4⟩, hb4⟩
      have hz4 := below_trans hz3 hb4
      obtain ⟨g4, c4, rfl, hcl4⟩ := OwnB.form ho4 (dec_ne _)
      have HO4 := Lib.hid (HO3.out.below hb4)
      have HC4 := Lib.hid hcl4
      clear ho4 hcl4
      go_wp2_with (at_builtin; refine wpList_app_bytes (w0 := w2) rfl _ _ _ rfl Try.underlying86 iu8 _ [45] rfl HO4.out hz4 g4 _ c4 _ rfl rfl HC4.out (by have := HDN.out; simp; omega) ?_; intro v5 w5 ho5 hz5; refine halt ?_)
      have HO5 := Lib.hid ho5
      clear ho5
      obtain ⟨g5, n5, c5, hq5⟩ : ∃ g n c, v5 = .slice g n c := own_form HO5.out
      subst hq5
      clear s0 s1 s2
      have s0 := RR.out 0 _ rfl _ hz5
      have s1 := RR.out 1 _ rfl _ hz5
      have s2 := RR.out 2 _ rfl _ hz5
      refine go_on ?_
      go_wp2_with fail
      refine (isOne_w (HD2.out.below hz5)).mono ?_
      rintro en6 w6 ⟨rfl, rfl⟩
      rw [HON.out]
      have hz5a : Below w2.heap.size w2 (w5.alloc (Obj.cells #[Value.int .u8 47] 5)) := hz5.alloc hz5.size _
      go_wp2_with (at_builtin; refine wpList_app_bytes (w0 := w2) rfl _ _ _ rfl Try.underlying86 iu8 _ _ rfl (HO5.out.below ((Below.refl _ _).alloc (Nat.le_refl _) _)) hz5a w5.heap.size 1 1 [47] rfl rfl (cell_one_new _ _ _) (by have := HDN.out; simp; omega) ?_; intro v7 w7 ho7 hz7; refine halt ?_)
      have HO7 := Lib.hid ho7
      clear ho7
      obtain ⟨g7, n7, c7, hq7⟩ : ∃ g n c, v7 = .slice g n c := own_form HO7.out
      subst hq7
      clear s0 s1 s2
      have s0 := RR.out 0 _ rfl _ hz7
      have s1 := RR.out 1 _ rfl _ hz7
      have s2 := RR.out 2 _ rfl _ hz7
      refine go_on ?_
      go_wp2_with fail
      refine (digits_w (HD2.out.below hz7) (by have := HLD.out; omega)).mono ?_
      rintro en8 w8 ⟨⟨r8, rfl, ho8⟩, hb8⟩
      have hz8 := below_trans hz7 hb8
      obtain ⟨g8, c8, rfl, hcl8⟩ := OwnB.form ho8 (dec_ne _)
      have HO8 := Lib.hid (HO7.out.below hb8)
      have HC8 := Lib.hid hcl8
      clear ho8 hcl8
      go_wp2_with (at_builtin; refine wpList_app_bytes (w0 := w2) rfl _ _ _ rfl Try.underlying86 iu8 _ _ rfl HO8.out hz8 g8 _ c8 _ rfl rfl HC8.out (by have := HDN.out; have := HDD.out; simp; omega) ?_; intro v9 w9 ho9 hz9; refine halt ?_)
      have HO9 := Lib.hid ho9
      clear ho9
      obtain ⟨g9, n9, c9, hq9⟩ : ∃ g n c, v9 = .slice g n c := own_form HO9.out
      subst hq9
      clear s0 s1 s2
      refine go_on ?_
      have hcv := run_bytes_string HO9.out (by simp)
      go_wp2_with fail
      go_ret
      exact ⟨by rw [HPL.out]; simp, below_trans HB2.out hz9⟩
    | false =>
      have HPL : Hid (printL P = [] ++ decS P.num.natAbs ++ [47] ++ decS P.den) := Lib.hid (by rw [HPL0.out, HTL.out]; simp [headL])
      go_enter Try.func41, Try.ntmps41
      go_wp2_with fail
      refine (read_w (HV.out.below (HB0.out _))).mono ?_
      rw [← HP.out]
      rintro en1 w1 ⟨⟨r1, rfl, u1, d1, rfl, hu1, hd1⟩, hb1⟩
      obtain ⟨ua, un, uc, hue⟩ := hu1.form
      subst hue
      obtain ⟨da, dn, dc, hde⟩ := hd1.form
      subst hde
      have HU1 := Lib.hid hu1
      have HD1 := Lib.hid hd1
      have HB1 := Lib.hid (below_trans (HB0.out _) hb1)
      rw [← HBN.out]
      clear hu1 hd1 hb1
      go_wp2_with ((with_reducible refine at_store ?_); refine wpList_store_var rfl _ _ _ rfl w1.heap.size rfl _ rfl _ _ (heap_alloc_new _ _) irat rfl rat_one' ?_; intro w2 h2 hon2; refine halt ?_)
      have hb2 : Below w1.heap.size w1 w2 := below_only ((Below.refl _ _).alloc (Nat.le_refl _) _) hon2 (Nat.le_refl _)
      have RR := Lib.hid (cells_later h2)
      have HU2 := Lib.hid (HU1.out.below hb2)
      have HD2 := Lib.hid (HD1.out.below hb2)
      have HB2 := Lib.hid (below_trans HB1.out hb2)
      have hz2 := Below.refl w2.heap.size w2
      clear h2 hon2 hb2
      refine go_on ?_
      have s0 := RR.out 0 _ rfl _ hz2
      have s1 := RR.out 1 _ rfl _ hz2
      have s2 := RR.out 2 _ rfl _ hz2
      have HO3 : Hid (OwnB w2 w2.heap.size (.slice none 0 0) []) := Lib.hid (OwnB.nil _ _)
      go_wp2_with fail
      refine (digits_w (HU2.out.below hz2) (by have := HLN.out; omega)).mono ?_
      rintro en4 w4 ⟨⟨r4, rfl, ho4⟩, hb4⟩
      have hz4 := below_trans hz2 hb4
      obtain ⟨g4, c4, rfl, hcl4⟩ := OwnB.form ho4 (dec_ne _)
      have HO4 := Lib.hid (HO3.out.below hb4)
      have HC4 := Lib.hid hcl4
      clear ho4 hcl4
      go_wp2_with (at_builtin; refine wpList_app_bytes (w0 := w2) rfl _ _ _ rfl Try.underlying86 iu8 _ [] rfl HO4.out hz4 g4 _ c4 _ rfl rfl HC4.out (by have := HDN.out; simp; omega) ?_; intro v5 w5 ho5 hz5; refine halt ?_)
      have HO5 := Lib.hid ho5
      clear ho5
      obtain ⟨g5, n5, c5, hq5⟩ : ∃ g n c, v5 = .slice g n c := own_form HO5.out
      subst hq5
      clear s0 s1 s2
      have s0 := RR.out 0 _ rfl _ hz5
      have s1 := RR.out 1 _ rfl _ hz5
      have s2 := RR.out 2 _ rfl _ hz5
      refine go_on ?_
      go_wp2_with fail
      refine (isOne_w (HD2.out.below hz5)).mono ?_
      rintro en6 w6 ⟨rfl, rfl⟩
      rw [HON.out]
      have hz5a : Below w2.heap.size w2 (w5.alloc (Obj.cells #[Value.int .u8 47] 5)) := hz5.alloc hz5.size _
      go_wp2_with (at_builtin; refine wpList_app_bytes (w0 := w2) rfl _ _ _ rfl Try.underlying86 iu8 _ _ rfl (HO5.out.below ((Below.refl _ _).alloc (Nat.le_refl _) _)) hz5a w5.heap.size 1 1 [47] rfl rfl (cell_one_new _ _ _) (by have := HDN.out; simp; omega) ?_; intro v7 w7 ho7 hz7; refine halt ?_)
      have HO7 := Lib.hid ho7
      clear ho7
      obtain ⟨g7, n7, c7, hq7⟩ : ∃ g n c, v7 = .slice g n c := own_form HO7.out
      subst hq7
      clear s0 s1 s2
      have s0 := RR.out 0 _ rfl _ hz7
      have s1 := RR.out 1 _ rfl _ hz7
      have s2 := RR.out 2 _ rfl _ hz7
      refine go_on ?_
      go_wp2_with fail
      refine (digits_w (HD2.out.below hz7) (by have := HLD.out; omega)).mono ?_
      rintro en8 w8 ⟨⟨r8, rfl, ho8⟩, hb8⟩
      have hz8 := below_trans hz7 hb8
      obtain ⟨g8, c8, rfl, hcl8⟩ := OwnB.form ho8 (dec_ne _)
      have HO8 := Lib.hid (HO7.out.below hb8)
      have HC8 := Lib.hid hcl8
      clear ho8 hcl8
      go_wp2_with (at_builtin; refine wpList_app_bytes (w0 := w2) rfl _ _ _ rfl Try.underlying86 iu8 _ _ rfl HO8.out hz8 g8 _ c8 _ rfl rfl HC8.out (by have := HDN.out; have := HDD.out; simp; omega) ?_; intro v9 w9 ho9 hz9; refine halt ?_)
      have HO9 := Lib.hid ho9
      clear ho9
      obtain ⟨g9, n9, c9, hq9⟩ : ∃ g n c, v9 = .slice g n c := own_form HO9.out
      subst hq9
      clear s0 s1 s2
      refine go_on ?_
      have hcv := run_bytes_string HO9.out (by simp)
      go_wp2_with fail
      go_ret
      exact ⟨by rw [HPL.out]; simp, below_trans HB2.out hz9⟩
end Go.Proofs.Ytlmnicpkncgbiaa
