import Derived.Test.YtkkbmlkpgknhgaaGreatZ6
import Derived.Deep.DrawnRows
import Derived.Test.YtkkbmlkpgknhgaaGreatRows
import Derived.WalkKit
import Derived.ProofKit
import Derived.OpenShut
import Derived.ShutString
import Derived.ChangeOld
import Derived.ChangeArms
import Derived.Carry
import Derived.Lib.SmallJoins
set_option maxRecDepth 100000
set_option maxHeartbeats 16000000
namespace Go.Proofs.YtkkbmlkpgknhgaaGreat
open Go.RowKit
attribute [local go_sem ↓] Go.wp_at_zero Go.wp_at_succ
variable {P Q q : Rat} {W w w' : World} {b : Bool} {base fuel n : Nat} {l m : List Nat} {v x : Value}
theorem z2j : j5q 0 = 1 := by
 have e1 : q2q (0 : Rat).num.natAbs = [] := by show q2q 0 = []; exact y7q
 have e2 : q2q (0 : Rat).den = [1] := by show q2q 1 = [1]; unfold q2q; simp [q2q]
 unfold j5q; rw [e1, e2]; simp
theorem i7q (h : j5q q ≤ 4096) : k6q q = q := by unfold k6q; rw [if_pos h]

def j2k (w : World) (q : Rat) (e : Ending) (w' : World) : Prop := (∃ r, e = .returned r ∧ j3q w' r q ∧ z1v w r) ∧ Below w.heap.size w w'
theorem z1v.mono (h : z1v w' v) (hs : w.heap.size ≤ w'.heap.size) : z1v w v := by
 obtain ⟨b, u, d, rfl, h1, h2⟩ := h
 exact ⟨b, u, d, rfl, fun x e => Nat.le_trans hs (h1 x e), fun x e => Nat.le_trans hs (h2 x e)⟩

theorem v1j {w1 wk : World} {R : Nat} {u d : Value} {t : TypeId} (hB1 : Below w.heap.size w w1) (hz : Below w1.heap.size w1 wk) (hR : w1.heap[R]? = some (.cells #[.bool false, .slice none 0 0, .slice none 0 0] t (0, 0))) (hRw : w.heap.size ≤ R)
  (hf : j3q wk (.agg #[.bool (decide (Q.num < 0)), u, d]) Q) (hn : z1v w1 (.agg #[.bool (decide (Q.num < 0)), u, d])) :
  j2k w Q (.returned (.agg #[.bool (decide (Q.num < 0)), u, d])) (d7q wk R (decide (Q.num < 0)) u d) := by
 have hR' : wk.heap[R]? = _ := (hz.block _ (lt_of_block hR)).trans hR
 obtain ⟨u', d', he, hu, hd⟩ := hf
 simp only [Value.agg.injEq, Array.mk.injEq, List.cons.injEq, and_true, true_and] at he
 obtain ⟨rfl, rfl⟩ := he
 refine ⟨⟨_, rfl, c1q hR' hu hd, ?_⟩, q4q (q0q hB1 hz) (q7q _ _ _ _ _) hRw⟩
 exact hn.mono hB1.size

theorem q8q {r : Value} (h : j3q w r Q) : ∃ a n c i j k, r = .agg #[.bool (decide (Q.num < 0)), .slice a n c, .slice i j k] := by
 obtain ⟨u, d, rfl, hu, hd⟩ := h
 obtain ⟨a, n, c, rfl⟩ := hu.form
 obtain ⟨i, j, k, rfl⟩ := hd.form
 exact ⟨a, n, c, i, j, k, rfl⟩

theorem x9y (hv : m3q w v b l m) :
  Calls Tryz.prog 52 #[v] w (j2k w (v1q b l m)) := by
 have HV := hdd hv
 have HL1 : Hi (j5q (v1q b l m) ≤ 4096) := hdd (by obtain ⟨u, d, rfl, hu, hd⟩ := hv; exact p3q hu.ws hd.ws)
 obtain ⟨u, d, rfl, hu, hd⟩ := hv
 obtain ⟨ua, un, uc, hue⟩ := hu.form
 subst hue
 obtain ⟨da, dn, dc, hde⟩ := hd.form
 subst hde
 clear hu hd
 obtain ⟨P, hP⟩ := qx (v1q b l m)
 have HP := hdd hP
 rw [← hP] at HL1
 rw [← hP]
 obtain ⟨Q, hQ⟩ := qx (P)
 have HQ := hdd hQ
 rw [← hQ]
 clear hP hQ
 obtain ⟨w1, hw1, HB1, HX, HR⟩ := al2 w #[.bool b, .slice ua un uc, .slice da dn dc] 43 #[.bool false, .slice none 0 0, .slice none 0 0] 43
 have HW1 := hdd hw1.symm
 clear hw1
 have R0 : Hi (∀ o v, (#[Value.bool false, Value.slice none 0 0, Value.slice none 0 0] : Array Value)[o]? = some v → ∀ w', Below w1.heap.size w1 w' → w'.cell? ⟨w.heap.size + 1, o, none⟩ = some v ∧ w'.frozen? ⟨w.heap.size + 1, o, none⟩ = false) :=
  hdd (fun o v h w' hb => by
   have h9 : w'.heap[w.heap.size + 1]? = some (.cells #[.bool false, .slice none 0 0, .slice none 0 0] 43 (0, 0)) := (hb.block _ (lt_of_block HR.o)).trans HR.o
   exact ⟨by rw [cell_of_row _ _ _ _ _ _ h9]; exact h, frozen_of_row _ _ _ _ _ h9⟩)
 have R1 : Hi (∀ o v, (#[Value.bool b, Value.slice ua un uc, Value.slice da dn dc] : Array Value)[o]? = some v → ∀ w', Below w1.heap.size w1 w' → w'.cell? ⟨w.heap.size, o, none⟩ = some v) :=
  hdd (fun o v h w' hb => by rw [cell_of_row _ _ _ _ _ _ ((hb.block _ (lt_of_block HX.o)).trans HX.o)]; exact h)
 have hz1 := Below.refl w1.heap.size w1
 have c0 := R1.o 0 _ rfl _ hz1
 have c1 := R1.o 1 _ rfl _ hz1
 have c2 := R1.o 2 _ rfl _ hz1
 go_enter Tryz.func52, Tryz.ntmps52
 go_wp2_with fail
 rw [HW1.o]
 have HC1 := hdd (fun w' (hb : Below w1.heap.size w1 w') => q6x (w := w') (HV.o.below (q0q HB1.o hb)))
 rw [← HP.o] at HC1
 refine (HC1.o _ hz1).mono ?_
 rintro en2 w2 ⟨⟨p2, rfl, h2⟩, hb2⟩
 have hz2 := q0q hz1 hb2
 have H2 := hdd h2
 clear c0 c1 c2 h2
 go_wp2_with fail
 have HCT := hdd (z6k H2.o (by have := HL1.o; omega))
 rw [i7q HL1.o, ← HQ.o] at HCT
 refine HCT.o.mono ?_
 rintro en3 w3 ⟨⟨x3, rfl, hf3, hn3⟩, hb3⟩
 obtain ⟨xa, xn, xc, xi, xj, xk, hx⟩ := q8q hf3
 subst hx
 have hz3 := q0q hz2 hb3
 have r0 := (R0.o 0 _ rfl _ hz3).1
 have r1 := (R0.o 1 _ rfl _ hz3).1
 have r2 := (R0.o 2 _ rfl _ hz3).1
 have f0 := (R0.o 0 _ rfl _ hz3).2
 have f1 := (R0.o 1 _ rfl _ hz3).2
 have f2 := (R0.o 2 _ rfl _ hz3).2
 have HTE := hdd (v1j HB1.o hz3 HR.o (by omega) hf3 (hn3.mono hz2.size))
 clear r0 r1 r2 f0 f1 f2
 have r0 := (R0.o 0 _ rfl _ hz3).1
 have r1 := (R0.o 1 _ rfl _ hz3).1
 have r2 := (R0.o 2 _ rfl _ hz3).1
 have f0 := (R0.o 0 _ rfl _ hz3).2
 have f1 := (R0.o 1 _ rfl _ hz3).2
 have f2 := (R0.o 2 _ rfl _ hz3).2
 have HRW : Hi (w3.heap[w.heap.size + 1]? = some (.cells #[.bool false, .slice none 0 0, .slice none 0 0] 43 (0, 0))) := hdd ((hz3.block _ (lt_of_block HR.o)).trans HR.o)
 go_wp2_with fail
 exact bodyPost_ret (results_cell_row rfl _ _ (w.heap.size + 1) _ _ _ _ rfl (z5q HRW.o) Tryz.underlying43 rfl v0q) rfl HTE.o

theorem j1y (q p : Rat) : j5q (q * p) ≤ j5q q + j5q p := by
 have e1 : (q2q (q * p).num.natAbs).length ≤ (q2q q.num.natAbs).length + (q2q p.num.natAbs).length := by
  rw [v6x, Int.natAbs_mul]
  refine Nat.le_trans (k2q _ _) (Nat.add_le_add ?_ ?_)
  ·
   exact z6q (l5q _ _)
  ·
   exact z6q (l5q _ _)
 have e2 : (q2q (q * p).den).length ≤ (q2q q.den).length + (q2q p.den).length := by
  rw [v6v]
  refine Nat.le_trans (k2q _ _) (Nat.add_le_add ?_ ?_)
  ·
   exact z6q (Nat.div_le_self _ _)
  ·
   exact z6q (Nat.div_le_self _ _)
 unfold j5q; omega

theorem u6z (w : World) (a : Value) (b : Bool) (c : Value) : (Instr.field 89 (.agg #[a, .bool b, c]) 0).run Tryz.prog w = .ok (.agg #[a, .bool b]) w := by
 have h3 := o5q
 cases hq : Tryz.prog.info? 87 with
 | none => simp [hq] at h3
 | some i =>
  have hsz : i.size = 2 := by simpa [hq] using h3
  simp [Instr.field, run_underlying Tryz.underlying89, asAgg, part, isAgg, run_underlying Tryz.underlying87, sizeOf, typeInfo, hq, hsz]

theorem h1q {P : Program} {fn : Func} {p u : Tmp} {ty : TypeId} (h : fn.results = #[.cell p ty, .tmp u]) (tmps : Array Value) (w : World) (g : Nat) (t : TypeId) (cs : Array Value) (fr : Nat × Nat) (d : TypeDesc)
  (hp : tmps.getD p undef = .pointer (some ⟨g, 0, none⟩)) (hg : w.heap[g]? = some (.cells cs t fr))
  (hu : P.underlying ty = some d) (hd : (match d with | .struct _ | .array _ _ => true | _ => false) = true) (hi : (P.info? ty).map (·.size) = some cs.size) :
  (results fn tmps).run P w = .ok (.tuple #[.agg cs, tmps.getD u undef]) w := by
 have hp' : tmps[p]?.getD undef = .pointer (some ⟨g, 0, none⟩) := by simpa using hp
 simp [results, h, hp', asAddr, run_loadVar_row w g t ty cs fr d hg hu hd hi]

theorem g9w (hv : m3q w v b l m) :
  Calls Tryz.prog 77 #[v] w fun e w' => e = .returned (.int .i64 (z7q (v1q b l m) 0)) ∧ Below w.heap.size w w' := by
 have HV := hdd hv
 have HL1 : Hi (j5q (v1q b l m) ≤ 4096) := hdd (by obtain ⟨u, d, rfl, hu, hd⟩ := hv; exact p3q hu.ws hd.ws)
 obtain ⟨u, d, rfl, hu, hd⟩ := hv
 obtain ⟨ua, un, uc, hue⟩ := hu.form
 subst hue
 obtain ⟨da, dn, dc, hde⟩ := hd.form
 subst hde
 clear hu hd
 obtain ⟨P, hP⟩ := qx (v1q b l m)
 have HP := hdd hP
 rw [← hP] at HL1
 rw [← hP]
 obtain ⟨sg, hsg⟩ := qx (z7q P 0)
 have HSG : Hi (sg = P.num.sign) := hdd (by rw [hsg]; exact (v0x P).symm)
 rw [← hsg]
 clear hsg hP
 obtain ⟨w1, hw1⟩ := qx ((w.alloc (Obj.cells #[.bool b, .slice ua un uc, .slice da dn dc] 43)))
 have HB1 : Hi (Below w.heap.size w w1) := hdd (by rw [hw1]; exact (qb).alloc qm _)
 have HX : Hi (w1.heap[w.heap.size]? = some (.cells #[.bool b, .slice ua un uc, .slice da dn dc] 43 (0, 0))) := hdd (by rw [hw1]; exact heap_alloc_new w _)
 have HW1 := hdd hw1.symm
 clear hw1
 have R1 : Hi (∀ o v, (#[Value.bool b, Value.slice ua un uc, Value.slice da dn dc] : Array Value)[o]? = some v → ∀ w', Below w1.heap.size w1 w' → w'.cell? ⟨w.heap.size, o, none⟩ = some v) :=
  hdd (fun o v h w' hb => by rw [cell_of_row _ _ _ _ _ _ ((hb.block _ (lt_of_block HX.o)).trans HX.o)]; exact h)
 have hz1 := Below.refl w1.heap.size w1
 have c0 := R1.o 0 _ rfl _ hz1
 have c1 := R1.o 1 _ rfl _ hz1
 have c2 := R1.o 2 _ rfl _ hz1
 go_enter Tryz.func77, Tryz.ntmps77
 go_wp2_with fail
 rw [HW1.o]
 have HC1 := hdd (fun w' (hb : Below w1.heap.size w1 w') => q6x (w := w') (HV.o.below (q0q HB1.o hb)))
 rw [← HP.o] at HC1
 refine (HC1.o _ hz1).mono ?_
 rintro en2 w2 ⟨⟨p2, rfl, h2⟩, hb2⟩
 have hz2 := q0q hz1 hb2
 obtain ⟨u2, d2, rfl, hu2, hd2⟩ := h2
 obtain ⟨xa, xn, xc, hxe⟩ := hu2.form
 subst hxe
 obtain ⟨ya, yn, yc, hye⟩ := hd2.form
 subst hye
 have H2 := hdd hu2
 obtain ⟨bs, hbs⟩ := qx (decide (P.num < 0))
 have HBS := hdd hbs
 rw [← hbs]
 have hfn := u6z w2 (Value.slice xa xn xc) bs (Value.slice ya yn yc)
 clear c0 c1 c2 hu2 hd2 hbs
 go_wp2_with fail
 refine (j1w H2.o HBS.o HSG.o).mono ?_
 rintro en3 w3 ⟨rfl, hb3⟩
 go_wp2_with fail
 go_ret
 exact ⟨rfl, q0q HB1.o (q0q hz2 hb3)⟩

theorem k1x {t : Value} {c : Bool} {l2 m2 : List Nat} (hv : m3q w v b l m) (ht : m3q w t c l2 m2) :
  Calls Tryz.prog 103 #[v, t] w fun e w' => e = .returned (.int .i64 (z7q (v1q b l m) (v1q c l2 m2))) ∧ Below w.heap.size w w' := by
 have HV := hdd hv
 have HL1 : Hi (j5q (v1q b l m) ≤ 4096) := hdd (by obtain ⟨u, d, rfl, hu, hd⟩ := hv; exact p3q hu.ws hd.ws)
 have HT := hdd ht
 have HL2 : Hi (j5q (v1q c l2 m2) ≤ 4096) := hdd (by obtain ⟨u, d, rfl, hu, hd⟩ := ht; exact p3q hu.ws hd.ws)
 obtain ⟨u, d, rfl, hu, hd⟩ := hv
 obtain ⟨ua, un, uc, hue⟩ := hu.form
 subst hue
 obtain ⟨da, dn, dc, hde⟩ := hd.form
 subst hde
 clear hu hd
 obtain ⟨u2, d2, rfl, hu2, hd2⟩ := ht
 obtain ⟨va, vn, vc, hve⟩ := hu2.form
 subst hve
 obtain ⟨ea, en, ec, hee⟩ := hd2.form
 subst hee
 clear hu2 hd2
 obtain ⟨P, hP⟩ := qx (v1q b l m)
 obtain ⟨S, hS⟩ := qx (v1q c l2 m2)
 have HS := hdd hS
 have HP := hdd hP
 rw [← hP] at HL1
 rw [← hS] at HL2
 rw [← hP, ← hS]
 obtain ⟨sg, hsg⟩ := qx (z7q P S)
 have HSG := hdd hsg
 rw [← hsg]
 clear hsg hP hS
 obtain ⟨w1, hw1⟩ := qx (((w.alloc (Obj.cells #[.bool b, .slice ua un uc, .slice da dn dc] 43)).alloc (Obj.cells #[.bool c, .slice va vn vc, .slice ea en ec] 43)))
 have HB1 : Hi (Below w.heap.size w w1) := hdd (by rw [hw1]; exact ((qb).alloc qm _).alloc (by simp) _)
 have HX : Hi (w1.heap[w.heap.size]? = some (.cells #[.bool b, .slice ua un uc, .slice da dn dc] 43 (0, 0))) := hdd (by rw [hw1]; exact heap_alloc2_old w _ _)
 have HY : Hi (w1.heap[w.heap.size + 1]? = some (.cells #[.bool c, .slice va vn vc, .slice ea en ec] 43 (0, 0))) := hdd (by rw [hw1]; exact heap_alloc2_new w _ _)
 have HW1 := hdd hw1.symm
 clear hw1
 have R1 : Hi (∀ o v, (#[Value.bool b, Value.slice ua un uc, Value.slice da dn dc] : Array Value)[o]? = some v → ∀ w', Below w1.heap.size w1 w' → w'.cell? ⟨w.heap.size, o, none⟩ = some v) :=
  hdd (fun o v h w' hb => by rw [cell_of_row _ _ _ _ _ _ ((hb.block _ (lt_of_block HX.o)).trans HX.o)]; exact h)
 have R2 : Hi (∀ o v, (#[Value.bool c, Value.slice va vn vc, Value.slice ea en ec] : Array Value)[o]? = some v → ∀ w', Below w1.heap.size w1 w' → w'.cell? ⟨w.heap.size + 1, o, none⟩ = some v) :=
  hdd (fun o v h w' hb => by rw [cell_of_row _ _ _ _ _ _ ((hb.block _ (lt_of_block HY.o)).trans HY.o)]; exact h)
 have hz1 := Below.refl w1.heap.size w1
 have c0 := R1.o 0 _ rfl _ hz1
 have c1 := R1.o 1 _ rfl _ hz1
 have c2 := R1.o 2 _ rfl _ hz1
 have e0 := R2.o 0 _ rfl _ hz1
 have e1 := R2.o 1 _ rfl _ hz1
 have e2 := R2.o 2 _ rfl _ hz1
 go_enter Tryz.func103, Tryz.ntmps103
 go_wp2_with fail
 rw [HW1.o]
 have HC1 := hdd (fun w' (hb : Below w1.heap.size w1 w') => q6x (w := w') (HV.o.below (q0q HB1.o hb)))
 rw [← HP.o] at HC1
 have HC2 := hdd (fun w' (hb : Below w1.heap.size w1 w') => q6x (w := w') (HT.o.below (q0q HB1.o hb)))
 rw [← HS.o] at HC2
 have hz0 : Below w1.heap.size w1 w1.drew := q5q qb 1
 have HC3 := hdd (fun w' x y (h : g0q w' x P) (k : g0q w' y S) => u2y (w := w') (v := x) (d := y) h k (by have := HL1.o; have := HL2.o; omega))
 rw [← HSG.o] at HC3
 go_region_held3 (fun w' => w'.cell? ⟨w.heap.size, 0, none⟩ = some (.bool b) ∧ w'.cell? ⟨w.heap.size, 1, none⟩ = some (.slice ua un uc) ∧ w'.cell? ⟨w.heap.size, 2, none⟩ = some (.slice da dn dc) ∧ w'.cell? ⟨w.heap.size + 1, 0, none⟩ = some (.bool c) ∧ w'.cell? ⟨w.heap.size + 1, 1, none⟩ = some (.slice va vn vc) ∧ w'.cell? ⟨w.heap.size + 1, 2, none⟩ = some (.slice ea en ec))
  (((try dsimp only); refine ⟨?_, ?_, ?_, ?_, ?_, ?_⟩ <;> (first | exact R1.o _ _ rfl _ (by assumption) | exact R2.o _ _ rfl _ (by assumption) | (rw [World.cell?_setCell_far _ _ _ _ (by dsimp only; omega), World.cell?_setCell_far _ _ _ _ (by dsimp only; omega), World.cell?_setCell_far _ _ _ _ (by dsimp only; omega)]; first | exact R1.o _ _ rfl _ (by assumption) | exact R2.o _ _ rfl _ (by assumption)) | go_keep)))
  (first | (go_at_call_of 56 (Value.slice ua un uc); refine (HC1.o _ hz0).mono ?_; rintro en2 w2 ⟨⟨p2, rfl, h2⟩, hb2⟩; have hz2 := q0q hz0 hb2) | (go_at_call 56; refine (HC2.o _ hz2).mono ?_; rintro en3 w3 ⟨⟨p3, rfl, h3⟩, hb3⟩; have hz3 := q0q hz2 hb3) | (go_at_call 134; refine (HC3.o _ _ _ (h2.below hb3) h3).mono ?_; rintro en9 w9 ⟨rfl, hb9⟩; have hz9 := q0q hz3 hb9))
 go_wp2_with fail
 go_ret
 exact ⟨rfl, q0q HB1.o hz9⟩

def v4y (w : World) (z : Bool) (Q : Rat) (e : Ending) (w' : World) : Prop :=
 (if z then e = .returned (.tuple #[.agg #[.bool false, .slice none 0 0, .slice none 0 0], .int .i64 11]) else ∃ r, e = .returned (.tuple #[r, .int .i64 0]) ∧ j3q w' r Q ∧ z1v w r) ∧ Below w.heap.size w w'
theorem j9v (n : Int) (h1 : -9223372036854775808 ≤ n) (h2 : n ≤ 9223372036854775807) : (q2q n.natAbs).length ≤ 2 := by
 have e : (4294967296 : Nat) ^ 2 = 18446744073709551616 := by decide
 refine x0q.2 ?_
 rw [e]; omega
def d2q (p q : Int) : Rat := mkRat (if (decide (p < 0) != decide (q < 0)) = true then -(p.natAbs : Int) else p.natAbs) q.natAbs
theorem g7v (p q : Int) (hp1 : -9223372036854775808 ≤ p) (hp2 : p ≤ 9223372036854775807) (hq1 : -9223372036854775808 ≤ q) (hq2 : q ≤ 9223372036854775807) :
  Calls Tryz.prog 118 #[.int .i64 p, .int .i64 q] w (v4y w (g7q q.natAbs) (d2q p q)) := by
 have HP1 := hdd hp1
 have HP2 := hdd hp2
 have HQ1 := hdd hq1
 have HQ2 := hdd hq2
 clear hp1 hp2 hq1 hq2
 by_cases h0 : q = 0
 ·
  have hd : ((q : Int) == 0) = true := by simp [h0]
  have HZ : Hi (g7q q.natAbs = true) := hdd (by rw [h0]; rfl)
  rw [HZ.o]
  clear h0
  go_enter Tryz.func118, Tryz.ntmps118
  go_wp2_with fail
  exact bodyPost_ret (h1q rfl _ _ w.heap.size _ _ _ _ rfl (heap_alloc_new w _) Tryz.underlying43 rfl v0q) rfl ⟨by rw [if_pos rfl]; rfl, (qb).alloc qm _⟩
 ·
  have hd : ((q : Int) == 0) = false := by simp [h0]
  have HZ : Hi (g7q q.natAbs = false) := hdd (by simp [g7q, h0])
  rw [HZ.o]
  have H0 := hdd h0
  clear h0
  obtain ⟨bp, hbp⟩ := qx (decide (p < 0))
  obtain ⟨bq, hbq⟩ := qx (decide (q < 0))
  have HBP := hdd hbp
  have HBQ := hdd hbq
  obtain ⟨w1, hw1, HB1, HR⟩ := al1 w #[.bool false, .slice none 0 0, .slice none 0 0] 43
  have HW1 := hdd hw1.symm
  clear hw1
  have HC1 : Hi (∀ w', Calls Tryz.prog 142 #[.int .i64 p] w' fun e w'' => (∃ r, e = .returned (.agg #[r, .bool bp]) ∧ IsW w'' r (q2q p.natAbs)) ∧ Below w'.heap.size w' w'') := hdd (fun w' => by
   refine (y0y p HP1.o HP2.o).mono ?_
   rintro e w'' ⟨⟨r, rfl, u, rfl, hu⟩, hb⟩
   exact ⟨⟨u, by rw [hbp], hu⟩, hb⟩)
  have HC2 : Hi (∀ w', Calls Tryz.prog 142 #[.int .i64 q] w' fun e w'' => (∃ r, e = .returned (.agg #[r, .bool bq]) ∧ IsW w'' r (q2q q.natAbs)) ∧ Below w'.heap.size w' w'') := hdd (fun w' => by
   refine (y0y q HQ1.o HQ2.o).mono ?_
   rintro e w'' ⟨⟨r, rfl, u, rfl, hu⟩, hb⟩
   exact ⟨⟨u, by rw [hbq], hu⟩, hb⟩)
  clear hbp hbq
  go_enter Tryz.func118, Tryz.ntmps118
  go_wp2_with fail
  rw [HW1.o]
  refine (HC1.o _).mono ?_
  rintro en2 w2 ⟨⟨r2, rfl, h2⟩, hz2⟩
  obtain ⟨ua, un, uc, hue⟩ := h2.form
  subst hue
  have HU := hdd h2
  clear h2
  go_wp2_with fail
  refine (HC2.o _).mono ?_
  rintro en3 w3 ⟨⟨r3, rfl, h3⟩, hb3⟩
  obtain ⟨va, vn, vc, hve⟩ := h3.form
  subst hve
  have HU3 := hdd (HU.o.below hb3)
  have HV3 := hdd h3
  have hz3 := q0q hz2 hb3
  clear h3 hb3 hz2
  go_wp2_with fail
  obtain ⟨w4, hw4⟩ := qx ((w3.alloc (Obj.cells #[.slice ua un uc, .bool bp] 87)).alloc (Obj.cells #[.slice va vn vc, .bool bq] 87))
  rw [← hw4]
  have hb4 : Below w3.heap.size w3 w4 := by rw [hw4]; exact ((qb).alloc qm _).alloc (by simp) _
  have hz4 := q0q hz3 hb4
  have HX : Hi (w4.heap[w3.heap.size]? = some (.cells #[.slice ua un uc, .bool bp] 87 (0, 0))) := hdd (by rw [hw4]; exact heap_alloc2_old w3 _ _)
  have HY : Hi (w4.heap[w3.heap.size + 1]? = some (.cells #[.slice va vn vc, .bool bq] 87 (0, 0))) := hdd (by rw [hw4]; exact heap_alloc2_new w3 _ _)
  have HU4 := hdd (HU3.o.below hb4)
  have HV4 := hdd (HV3.o.below hb4)
  have hs3 : w.heap.size + 1 ≤ w3.heap.size := by have h1 := hz3.size; have h2 := lt_of_block HR.o; omega
  clear hw4 hb4
  have R0 : Hi (∀ o v, (#[Value.bool false, Value.slice none 0 0, Value.slice none 0 0] : Array Value)[o]? = some v → ∀ w', Below w1.heap.size w1 w' → w'.cell? ⟨w.heap.size, o, none⟩ = some v ∧ w'.frozen? ⟨w.heap.size, o, none⟩ = false) :=
   hdd (fun o v h w' hb => by
    have h9 : w'.heap[w.heap.size]? = some (.cells #[.bool false, .slice none 0 0, .slice none 0 0] 43 (0, 0)) := (hb.block _ (lt_of_block HR.o)).trans HR.o
    exact ⟨by rw [cell_of_row _ _ _ _ _ _ h9]; exact h, frozen_of_row _ _ _ _ _ h9⟩)
  have RX : Hi (∀ o v, (#[Value.slice ua un uc, Value.bool bp] : Array Value)[o]? = some v → ∀ w', Below w4.heap.size w4 w' → w'.cell? ⟨w3.heap.size, o, none⟩ = some v) :=
   hdd (fun o v h w' hb => by rw [cell_of_row _ _ _ _ _ _ ((hb.block _ (lt_of_block HX.o)).trans HX.o)]; exact h)
  have RY : Hi (∀ o v, (#[Value.slice va vn vc, Value.bool bq] : Array Value)[o]? = some v → ∀ w', Below w4.heap.size w4 w' → w'.cell? ⟨w3.heap.size + 1, o, none⟩ = some v) :=
   hdd (fun o v h w' hb => by rw [cell_of_row _ _ _ _ _ _ ((hb.block _ (lt_of_block HY.o)).trans HY.o)]; exact h)
  obtain ⟨fz, hfz⟩ : ∃ x : Int, x = if (bp != bq) = true then -(p.natAbs : Int) else p.natAbs := ⟨_, rfl⟩
  obtain ⟨fx, hfx⟩ := qx (decide (fz < 0))
  have HFZ := hdd hfz
  have HFX := hdd hfx
  have HFA : Hi (fz.natAbs = p.natAbs) := hdd (u2w hfz)
  have HMQ : Hi (d2q p q = mkRat fz q.natAbs) := hdd (by unfold d2q; rw [hfz, HBP.o, HBQ.o])
  have HLP := hdd (j9v p HP1.o HP2.o)
  have HLQ := hdd (j9v q HQ1.o HQ2.o)
  have HQ0 : Hi (0 < q.natAbs) := hdd (by have := H0.o; omega)
  clear hfz hfx
  have HM1 := hdd (fun w' (hb : Below w4.heap.size w4 w') => x7k (w := w') (b := bp != bq) (HU4.o.below hb) HFZ.o HFX.o)
  have HM2 := hdd (fun w' (hb : Below w4.heap.size w4 w') => x4w (w := w') (v := .agg #[Value.slice ua un uc, Value.bool fx]) (z := fz) ⟨_, by rw [HFX.o], by rw [HFA.o]; exact HU4.o.below hb⟩ (HV4.o.below hb) HQ0.o (by rw [HFA.o]; have := HLP.o; omega) (by have := HLQ.o; omega))
  have HLN : Hi (j5q (d2q p q) ≤ 4) := hdd (by
   have h1 : (q2q (d2q p q).num.natAbs).length ≤ (q2q p.natAbs).length := z6q (by rw [HMQ.o, j7z (by have := HQ0.o; omega)]; refine Nat.le_trans (l5q _ _) ?_; rw [HFA.o]; exact Nat.le_refl _)
   have h2 : (q2q (d2q p q).den).length ≤ (q2q q.natAbs).length := z6q (by rw [HMQ.o, q1w (by have := HQ0.o; omega)]; exact Nat.div_le_self _ _)
   have := HLP.o
   have := HLQ.o
   unfold j5q; omega)
  obtain ⟨Q, hQ⟩ := qx (d2q p q)
  have HQQ := hdd hQ
  have HCT := hdd (fun w' x (h : g0q w' x (mkRat fz q.natAbs)) => z6k (w := w') (v := x) h (by rw [← HMQ.o]; have := HLN.o; omega))
  rw [← HMQ.o, i7q (by have := HLN.o; omega), ← hQ] at HCT
  rw [← HMQ.o, ← hQ] at HM2
  clear hQ
  have hz0 : Below w1.heap.size w1 w4.drew := q5q hz4 1
  have hy0 : Below w4.heap.size w4 w4.drew := q5q qb 1
  have c0 := RX.o 0 _ rfl _ qb
  have c1 := RX.o 1 _ rfl _ qb
  have e0 := RY.o 0 _ rfl _ qb
  have e1 := RY.o 1 _ rfl _ qb
  go_region_held3 (fun w' => w'.cell? ⟨w3.heap.size, 0, none⟩ = some (.slice ua un uc) ∧ w'.cell? ⟨w3.heap.size, 1, none⟩ = some (.bool bp) ∧ w'.cell? ⟨w3.heap.size + 1, 0, none⟩ = some (.slice va vn vc) ∧ w'.cell? ⟨w3.heap.size + 1, 1, none⟩ = some (.bool bq))
   (((try dsimp only); refine ⟨?_, ?_, ?_, ?_⟩ <;> (first | exact RX.o _ _ rfl _ (by assumption) | exact RY.o _ _ rfl _ (by assumption) | (rw [World.cell?_setCell_far _ _ _ _ (by dsimp only; omega), World.cell?_setCell_far _ _ _ _ (by dsimp only; omega), World.cell?_setCell_far _ _ _ _ (by dsimp only; omega)]; first | exact RX.o _ _ rfl _ (by assumption) | exact RY.o _ _ rfl _ (by assumption)) | go_keep)))
   (first | (go_at_call 114; refine (HM1.o _ hy0).mono ?_; rintro en5 w5 ⟨rfl, hb5⟩; have hz5 := q0q hz0 hb5; have hy5 := q0q hy0 hb5) | (go_at_call 143; refine (HM2.o _ hy5).mono ?_; rintro en9 w9 ⟨⟨p9, rfl, h9⟩, hb9⟩; have hz9 := q0q hz5 hb9; have hy9 := q0q hy5 hb9) | (go_at_call 55; refine (HCT.o _ _ h9).mono ?_; rintro ent wt ⟨⟨xt, rfl, hft, hnt⟩, hbt⟩; obtain ⟨xa, xn, xc, xi, xj, xk, hx⟩ := q8q hft; subst hx; have hzt := q0q hz9 hbt; have r0 := (R0.o 0 _ rfl _ hzt).1; have r1 := (R0.o 1 _ rfl _ hzt).1; have r2 := (R0.o 2 _ rfl _ hzt).1; have f0 := (R0.o 0 _ rfl _ hzt).2; have f1 := (R0.o 1 _ rfl _ hzt).2; have f2 := (R0.o 2 _ rfl _ hzt).2; have hyt := q0q hy9 hbt))
  have HTE := hdd (v1j HB1.o hzt HR.o qm hft (hnt.mono hz9.size))
  clear r0 r1 r2 f0 f1 f2
  have r0 := (R0.o 0 _ rfl _ hzt).1
  have r1 := (R0.o 1 _ rfl _ hzt).1
  have r2 := (R0.o 2 _ rfl _ hzt).1
  have f0 := (R0.o 0 _ rfl _ hzt).2
  have f1 := (R0.o 1 _ rfl _ hzt).2
  have f2 := (R0.o 2 _ rfl _ hzt).2
  have HRW : Hi (wt.heap[w.heap.size]? = some (.cells #[.bool false, .slice none 0 0, .slice none 0 0] 43 (0, 0))) := hdd ((hzt.block _ (lt_of_block HR.o)).trans HR.o)
  go_wp2_with fail
  refine bodyPost_ret (h1q rfl _ _ w.heap.size _ _ _ _ rfl (z5q HRW.o) Tryz.underlying43 rfl v0q) rfl ?_
  obtain ⟨⟨rr, hr1, hr2, hr3⟩, hr4⟩ := HTE.o
  simp only [Ending.returned.injEq] at hr1
  exact ⟨⟨rr, by rw [← hr1]; rfl, by rw [← HQQ.o]; exact hr2, hr3⟩, hr4⟩
end Go.Proofs.YtkkbmlkpgknhgaaGreat
namespace Go.Proofs.YtkkbmlkpgknhgaaGreat
open Go.RowKit
variable {P Q q : Rat} {W w w' : World} {b : Bool} {base fuel n : Nat} {l m : List Nat} {v x : Value}
theorem u4h (a : Rat) : z7q a a = 0 := by
 unfold z7q; rw [if_neg Rat.lt_irrefl, if_pos rfl]
theorem u0w (a b : Rat) : (z7q a b = -1 ∧ a < b) ∨ (z7q a b = 0 ∧ a = b) ∨ (z7q a b = 1 ∧ b < a) := by
 by_cases h : a < b
 ·
  exact .inl ⟨by unfold z7q; rw [if_pos h], h⟩
 ·
  by_cases h2 : a = b
  ·
   exact .inr (.inl ⟨by rw [h2, u4h], h2⟩)
  ·
   exact .inr (.inr ⟨by unfold z7q; rw [if_neg h, if_neg h2], Rat.lt_of_le_of_ne (Rat.not_lt.1 h) (Ne.symm h2)⟩)
theorem m8q (a b : Rat) : -1 ≤ z7q a b ∧ z7q a b ≤ 1 := by
 rcases u0w a b with ⟨e, _⟩ | ⟨e, _⟩ | ⟨e, _⟩ <;> omega
def InF (w : World) (v : Value) (q : Rat) : Prop := ∃ b l m, m3q w v b l m ∧ q = v1q b l m
theorem InF.below (h : InF w v q) (hb : Below w.heap.size w w') : InF w' v q := by
 obtain ⟨b, l, m, h1, h2⟩ := h
 exact ⟨b, l, m, h1.below hb, h2⟩
theorem InF.len (h : InF w v q) : j5q q ≤ 4096 := by
 obtain ⟨b, l, m, ⟨u, d, rfl, hu, hd⟩, rfl⟩ := h
 exact p3q hu.ws hd.ws
theorem u2v (h : j5q q ≤ 4096) : v4q (decide (q.num < 0)) (q2q q.num.natAbs) (q2q q.den) = true := by
 have h1 : val (q2q q.num.natAbs) = q.num.natAbs := j6q _
 have h2 : val (q2q q.den) = q.den := j6q _
 have h3 : q2q q.den ≠ [] := fun e => by rw [e] at h2; have := q.den_nz; exact this (by rw [← h2]; rfl)
 unfold v4q s3q b1q k7q
 simp only [Bool.and_eq_true, decide_eq_true_eq, Bool.not_eq_true']
 refine ⟨h, n0q _, n0q _, ?_, ?_, ?_⟩
 ·
  unfold b8q; simpa using h3
 ·
  by_cases h4 : q.num < 0
  ·
   have h5 : q2q q.num.natAbs ≠ [] := fun e => by rw [e] at h1; have : (0 : Nat) = q.num.natAbs := h1; omega
   have h6 : b8q (q2q q.num.natAbs) = false := by unfold b8q; simpa using h5
   rw [h6]; simp
  ·
   simp [h4]
 ·
  rw [h1, h2]; exact q.reduced
theorem t4q (h : j5q q ≤ 4096) : v1q (decide (q.num < 0)) (q2q q.num.natAbs) (q2q q.den) = q := by
 unfold v1q
 rw [if_pos (u2v h), j6q, j6q]
 have e : (if decide (q.num < 0) = true then -((q.num.natAbs : Nat) : Int) else ((q.num.natAbs : Nat) : Int)) = q.num := by
  by_cases h4 : q.num < 0
  ·
   simp [h4]; omega
  ·
   simp [h4]; omega
 rw [e]
 exact Rat.mkRat_self q
theorem j3q.inF (h : j3q w v q) (hl : j5q q ≤ 4096) : InF w v q := by
 obtain ⟨u, d, rfl, hu, hd⟩ := h
 exact ⟨_, _, _, ⟨_, _, rfl, hu, hd⟩, (t4q hl).symm⟩

theorem z4j {y : Value} {S : Rat} (hx : InF w x P) (hy : InF w y S) : Calls Tryz.prog 103 #[x, y] w fun e w' => e = .returned (.int .i64 (z7q P S)) ∧ Below w.heap.size w w' := by
 obtain ⟨b, l, m, h, rfl⟩ := hx
 obtain ⟨c, l2, m2, k, rfl⟩ := hy
 exact k1x h k
theorem j1k (hx : InF w x P) : Calls Tryz.prog 77 #[x] w fun e w' => e = .returned (.int .i64 (z7q P 0)) ∧ Below w.heap.size w w' := by
 obtain ⟨b, l, m, h, rfl⟩ := hx
 exact g9w h
def v6q (n : Nat) (w : World) (v : Value) (q : Rat) : Prop := ∃ b l m, m3q w v b l m ∧ q = v1q b l m ∧ l.length ≤ n ∧ m.length ≤ n
theorem v6q.inF (h : v6q n w v q) : InF w v q := by
 obtain ⟨b, l, m, h1, h2, _, _⟩ := h
 exact ⟨b, l, m, h1, h2⟩
theorem v6q.below (h : v6q n w v q) (hb : Below w.heap.size w w') : v6q n w' v q := by
 obtain ⟨b, l, m, h1, h2⟩ := h
 exact ⟨b, l, m, h1.below hb, h2⟩
theorem v6q.len (h : v6q n w v q) : j5q q ≤ 2 * n + 1 := by
 obtain ⟨b, l, m, ⟨u, d, rfl, hu, hd⟩, rfl, h1, h2⟩ := h
 by_cases hr : v4q b l m = true
 ·
  obtain ⟨e1, e2, _, _⟩ := i0q hu.ws hd.ws hr
  unfold j5q; rw [← e1, ← e2]; omega
 ·
  have : v1q b l m = 0 := by unfold v1q; rw [if_neg hr]
  rw [this, z2j]; omega
end Go.Proofs.YtkkbmlkpgknhgaaGreat
namespace Go.Proofs.YtkkbmlkpgknhgaaGreat
open Go.ChangeShapes Go.WideShapes Go.ChangeAt Go.RowKit
variable {P Q q : Rat} {W w w' : World} {b : Bool} {base fuel n : Nat} {l m : List Nat} {v x : Value}
theorem x5x : ownKnob Tryz.prog.godebug = none := by kernel_rfl
theorem z1w : laidOutB Tryz.prog = true := by kernel_rfl
theorem u4k : Tryz.prog.cellsOf 125 = 1 := by kernel_rfl
theorem j3j : Tryz.prog.cellsOf 43 = 3 := by kernel_rfl
def x3j (w : World) (v : Value) (n : Nat) : Prop := n ≤ 1073741824 → ∃ l, l.length = n ∧ IsW w v l

def q0x (w : World) (v : Value) (b : Bool) (a1 : Option Addr) (n1 c1 : Nat) (a2 : Option Addr) (n2 c2 : Nat) : Prop :=
 v = .agg #[.bool b, .slice a1 n1 c1, .slice a2 n2 c2] ∧ x3j w (.slice a1 n1 c1) n1 ∧ x3j w (.slice a2 n2 c2) n2

theorem q0x.few {a1 : Option Addr} {n1 c1 : Nat} {a2 : Option Addr} {n2 c2 : Nat} (h : q0x w v b a1 n1 c1 a2 n2 c2) (hn : n ≤ 1073741824) (h1 : n1 ≤ n) (h2 : n2 ≤ n) : ∃ q, v6q n w v q := by
 obtain ⟨rfl, k1, k2⟩ := h
 obtain ⟨l, e1, hl⟩ := k1 (by omega)
 obtain ⟨m, e2, hm⟩ := k2 (by omega)
 exact ⟨_, b, l, m, ⟨_, _, rfl, hl, hm⟩, rfl, by omega, by omega⟩
end Go.Proofs.YtkkbmlkpgknhgaaGreat
namespace Go.Proofs.YtkkbmlkpgknhgaaGreat
open Go.RowKit
variable {P Q q : Rat} {W w w' : World} {b : Bool} {base fuel n : Nat} {l m : List Nat} {v x : Value}
def r8q (n k : Nat) (f g : Nat → Nat) : Bool := decide (∀ i, i < k → f i ≤ n ∧ g i ≤ n)

end Go.Proofs.YtkkbmlkpgknhgaaGreat
namespace Go.Proofs.YtkkbmlkpgknhgaaGreat
open Go.ChangeShapes Go.WideShapes Go.ChangeAt Go.RowKit
variable {P Q q : Rat} {W w w' : World} {b : Bool} {base fuel n : Nat} {l m : List Nat} {v x : Value}
theorem x0w {b o : Nat} {sp : Option Nat} (h : w.cell? ⟨b, o, sp⟩ = some v) : sp = none := by
 cases sp with
 | none => rfl
 | some x =>
  unfold World.cell? at h
  split at h <;> simp at h
theorem e8q (b o k : Nat) : (⟨b, o, none⟩ : Addr).add k = ⟨b, o + k, none⟩ := by unfold Addr.add; split <;> simp_all
theorem i1q {a : Addr} (h : w.cell? a = some v) : ∃ b o, a = ⟨b, o, none⟩ ∧ b < w.heap.size := by
 obtain ⟨b, o, sp⟩ := a
 obtain rfl := x0w h
 refine ⟨b, o, rfl, ?_⟩
 by_cases hb : b < w.heap.size
 ·
  exact hb
 ·
  have : w.heap[b]? = none := by simp; omega
  simp [World.cell?, this] at h

theorem z7z {H : Type} {enc : TypeId × Value → H} {x : DataW H × List MemPlace}
  (h : DataW.trod enc Tryz.prog W base (fun _ => true) true fuel 41 [v] = some x) : ∃ a n c, v = .slice a n c ∧ x3j W v n := by
 rcases open_ints Tryz.underlying41 Tryz.underlying125 u4k h with ⟨hcs, _⟩ | ⟨y, len, cap, zs, hcs, _, hl, hm, hz, _, hcell, hw⟩
 ·
  simp at hcs
  subst hcs
  exact ⟨none, 0, 0, rfl, fun _ => ⟨[], rfl, IsW.nil W⟩⟩
 ·
  simp at hcs
  subst hcs
  refine ⟨some y, len, cap, rfl, fun hn => ?_⟩
  by_cases h0 : len = 0
  ·
   subst h0
   exact ⟨[], rfl, some y, cap, rfl, Nat.zero_le _, Nat.zero_le _, x2k, d5q.nil _ _, fun h => absurd rfl h⟩
  have hz' : zs.length = cap := by simpa using hz
  have hcell0 : W.cell? y = _ := hcell 0 (by omega)
  obtain ⟨b, off, rfl, hlt⟩ := i1q hcell0
  have hlen : ((zs.take len).map Int.toNat).length = len := by simp; omega
  have hws : ∀ z ∈ zs, 0 ≤ z ∧ z ≤ 4294967295 := by
   intro z hzm
   have := hw z hzm
   have m1 : IntKind.u32.min = 0 := by decide
   have m2 : IntKind.u32.max = 4294967295 := by decide
   simp only [Lit.wf, m1, m2, Bool.and_eq_true, decide_eq_true_eq] at this
   exact this
  refine ⟨(zs.take len).map Int.toNat, hlen, _, cap, by rw [hlen], by rw [hlen]; exact hl, by rw [hlen]; exact hn, ?_, ?_, ?_⟩
  ·
   intro z hzm
   obtain ⟨z', hz1, rfl⟩ := List.mem_map.1 hzm
   have := hws z' (List.mem_of_mem_take hz1)
   omega
  ·
   intro _
   refine ⟨b, off, rfl, hlt, fun j hj => ?_⟩
   have hj' : j < len := by simp at hj; omega
   have hj2 : j < zs.length := by omega
   have hc := hcell j hj2
   have e : (zs.getD j 0) = zs[j] := by simp [List.getD, hj2]
   have e2 := hws zs[j] (List.getElem_mem hj2)
   have e3 : ((zs[j].toNat : Nat) : Int) = zs[j] := by omega
   have hc' : W.cell? ⟨b, off + j, none⟩ = some (.int .u32 (zs.getD j 0)) := by rw [← e8q]; exact hc
   rw [hc', e]
   simp [U, e3]
  ·
   intro _ x hx
   cases hx
   exact hlt

theorem j6k {H : Type} {enc : TypeId × Value → H} {cs : List Value} {x : DataW H × List MemPlace}
  (h : DataW.trod enc Tryz.prog W base (fun _ => true) true fuel 43 cs = some x) :
  ∃ b a1 n1 c1 a2 n2 c2, cs = [.bool b, .slice a1 n1 c1, .slice a2 n2 c2] ∧ q0x W (.agg #[.bool b, .slice a1 n1 c1, .slice a2 n2 c2]) b a1 n1 c1 a2 n2 c2 := by
 obtain ⟨xs, n, _, rfl, hl, hlen, hf⟩ := DataW.trod_struct Tryz.underlying43 h
 rw [j3j] at hl
 obtain ⟨v0, v1, v2, rfl⟩ : ∃ v0 v1 v2, cs = [v0, v1, v2] := by
  match cs, hl with
  | [c0, c1, c2], _ => exact ⟨c0, c1, c2, rfl⟩
 obtain ⟨y0, y1, y2, rfl⟩ : ∃ y0 y1 y2, xs = [y0, y1, y2] := by
  match xs, hlen with
  | [c0, c1, c2], _ => exact ⟨c0, c1, c2, rfl⟩
 have h0 := hf 0 _ rfl
 have h1 := hf 1 _ rfl
 have h2 := hf 2 _ rfl
 have h0' : DataW.trod enc Tryz.prog W base (fun _ => true) true n 4 [v0] = some y0 := h0
 have h1' : DataW.trod enc Tryz.prog W base (fun _ => true) true n 41 [v1] = some y1 := h1
 have h2' : DataW.trod enc Tryz.prog W base (fun _ => true) true n 41 [v2] = some y2 := h2
 obtain ⟨b, hb, _⟩ := DataW.trod_bool Tryz.underlying4 h0'
 obtain ⟨a1, n1, c1, rfl, k1⟩ := z7z h1'
 obtain ⟨a2, n2, c2, rfl, k2⟩ := z7z h2'
 simp at hb
 subst hb
 exact ⟨b, a1, n1, c1, a2, n2, c2, rfl, rfl, k1, k2⟩

def g1q (w : World) (v : Value) (a : Option Addr) (n c : Nat) : Prop :=
 v = .slice a n c ∧ ∀ i, i < n → ∃ B off b a1 n1 c1 a2 n2 c2, a = some ⟨B, off, none⟩ ∧ w.cell? ⟨B, off + i * 3, none⟩ = some (.bool b) ∧ w.cell? ⟨B, off + i * 3 + 1, none⟩ = some (.slice a1 n1 c1) ∧ w.cell? ⟨B, off + i * 3 + 2, none⟩ = some (.slice a2 n2 c2) ∧
  q0x w (.agg #[.bool b, .slice a1 n1 c1, .slice a2 n2 c2]) b a1 n1 c1 a2 n2 c2
theorem g1x {H : Type} {enc : TypeId × Value → H} {d : DataW H} {p : List MemPlace}
  (h : DataW.Trod enc Tryz.prog W 0 (fun _ => true) true 23 v d p) (hv : ∃ a n c, v = .slice a n c) : ∃ a n c, g1q W v a n c := by
 obtain ⟨a, n, c, rfl⟩ := hv
 refine ⟨a, n, c, rfl, fun i hi => ?_⟩
 obtain ⟨fuel, hf⟩ := h
 rcases DataW.trod_slice Tryz.underlying23 hf with ⟨h0, _⟩ | ⟨a', len, cap, elems, rest, m, _, hcs, _, _, hl, hm, hlen, hel, _, _⟩
 ·
  simp [Value.cells] at h0
  omega
 ·
  simp [Value.cells] at hcs
  obtain ⟨rfl, rfl, rfl⟩ := hcs
  have hsp : ∃ B off, a' = ⟨B, off, none⟩ := by
   have h1 := hel 0 (by omega)
   rw [j3j, List.getElem?_eq_getElem (by omega), Option.bind_eq_some_iff] at h1
   obtain ⟨cs, hc1, hc2⟩ := h1
   obtain ⟨b, a1, n1, c1, a2, n2, c2, rfl, -⟩ := j6k hc2
   obtain ⟨-, -, hcell⟩ := World.cells?_some hc1
   have e0 := hcell 0 (by omega)
   rw [Nat.zero_mul] at e0
   have e0' : W.cell? a' = _ := e0
   obtain ⟨B, off, h, -⟩ := i1q e0'
   exact ⟨B, off, h⟩
  obtain ⟨B, off, rfl⟩ := hsp
  have h1 := hel i hi
  rw [j3j, List.getElem?_eq_getElem (by omega), Option.bind_eq_some_iff] at h1
  obtain ⟨cs, hc1, hc2⟩ := h1
  obtain ⟨b, a1, n1, c1, a2, n2, c2, rfl, hF⟩ := j6k hc2
  obtain ⟨-, -, hcell⟩ := World.cells?_some hc1
  have e0 := hcell 0 (by omega)
  have e1 := hcell 1 (by omega)
  have e2 := hcell 2 (by omega)
  simp only [e8q, Nat.add_zero] at e0 e1 e2
  exact ⟨B, off, b, a1, n1, c1, a2, n2, c2, rfl, e0, e1, e2, hF⟩
end Go.Proofs.YtkkbmlkpgknhgaaGreat
