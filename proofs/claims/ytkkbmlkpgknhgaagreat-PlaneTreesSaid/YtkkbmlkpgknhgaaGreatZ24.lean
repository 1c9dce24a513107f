import Derived.Test.YtkkbmlkpgknhgaaGreatZ20
import Derived.Test.YtkkbmlkpgknhgaaGreatZ21
import Derived.Test.YtkkbmlkpgknhgaaGreatZ23
import Derived.Test.YtkkbmlkpgknhgaaGreatZ17
import Derived.Deep.RegionHeld3
import Derived.Deep.DrawnRows
import Derived.BigQuiet
set_option maxRecDepth 100000
set_option maxHeartbeats 16000000
namespace Go.Proofs.YtkkbmlkpgknhgaaGreat
open Go.RowKit
variable {bs l vs : List Int} {ca fa ga oa va : Option Addr} {cc cn f fc fn gc gn i k m n oc rn v0 vc : Nat} {lim : Option Rat} {lv v : Value} {rs : List Nat} {w w' : World} {xs zs : List Rat}
structure k9q where
 var : Int
 zero : Int
 one : Int
 kind : Int
 xs : List Rat
 ys : List Rat
 zs : List Rat
variable {Cs : List k9q}
def z7w (Q : Pm) (lim : Option Rat) (c : k9q) : Bool := match lim with
 | none => false
 | some q => decide (c.kind = 1) && decide (z7q (y5q Q c.xs) q ≤ 0)
def s0q (Q : Pm) (lim : Option Rat) (c : k9q) : Bool := j4q Q c.kind c.xs c.ys c.zs && (decide (c.kind = 2) || z7w Q lim c)
def t2q (l vs : List Int) (v : Int) : Bool := l.contains v && !(vs.contains v)
def g3q (n i : Nat) (z : Int) : Bool := decide ((i : Int) < z ∧ z < n)
def u6q (P : Pm) (l : List Int) (lim : Option Rat) (Cs : List k9q) : Nat → Nat → Nat → List Int → List Int → Nat × Bool
 | 0, _, _, _, _ => (0, false)
 | f + 1, i, m, vs, bs =>
  if m = 0 then (0, false) else
  match Cs[i]? with
  | none => (1, false)
  | some c =>
   if c.var = -1 then (1, s0q (u7q P l vs bs) lim c) else
   if (t2q l vs c.var && g3q Cs.length i c.zero && g3q Cs.length i c.one) = false then (1, false) else
   if (u6q P l lim Cs f c.zero.toNat (m - 1) (vs ++ [c.var]) (bs ++ [0])).2 = false then (1 + (u6q P l lim Cs f c.zero.toNat (m - 1) (vs ++ [c.var]) (bs ++ [0])).1, false) else
   (1 + (u6q P l lim Cs f c.zero.toNat (m - 1) (vs ++ [c.var]) (bs ++ [0])).1 + (u6q P l lim Cs f c.one.toNat (m - 1 - (u6q P l lim Cs f c.zero.toNat (m - 1) (vs ++ [c.var]) (bs ++ [0])).1) (vs ++ [c.var]) (bs ++ [1])).1,
    (u6q P l lim Cs f c.one.toNat (m - 1 - (u6q P l lim Cs f c.zero.toNat (m - 1) (vs ++ [c.var]) (bs ++ [0])).1) (vs ++ [c.var]) (bs ++ [1])).2)
theorem z3y (P : Pm) (l : List Int) (lim : Option Rat) (Cs : List k9q) : ∀ (f i m : Nat) (vs bs : List Int), (u6q P l lim Cs f i m vs bs).1 ≤ m := by
 intro f
 induction f with
 | zero => intro i m vs bs; exact Nat.zero_le _
 | succ f ih =>
  intro i m vs bs
  unfold u6q
  split
  ·
   exact Nat.zero_le _
  ·
   split
   ·
    show 1 ≤ m; omega
   ·
    rename_i c _
    have h0 := ih c.zero.toNat (m - 1) (vs ++ [c.var]) (bs ++ [0])
    split
    ·
     show 1 ≤ m; omega
    ·
     split
     ·
      show 1 ≤ m; omega
     ·
      split
      ·
       show 1 + _ ≤ m; omega
      ·
       have h1 := ih c.one.toNat (m - 1 - (u6q P l lim Cs f c.zero.toNat (m - 1) (vs ++ [c.var]) (bs ++ [0])).1) (vs ++ [c.var]) (bs ++ [1])
       show 1 + _ + _ ≤ m
       omega
theorem v8v {P : Pm} : u6q P l lim Cs (f + 1) i 0 vs bs = (0, false) := by
 unfold u6q
 rw [if_pos rfl]
theorem z6h {P : Pm} {c : k9q} (hm : m ≠ 0) (hc : Cs[i]? = some c) (hv : c.var = -1) : u6q P l lim Cs (f + 1) i m vs bs = (1, s0q (u7q P l vs bs) lim c) := by
 unfold u6q
 rw [if_neg hm, hc]
 show (if c.var = -1 then _ else _) = _
 rw [if_pos hv]
theorem m1q {P : Pm} {c : k9q} (hm : m ≠ 0) (hc : Cs[i]? = some c) (hv : c.var ≠ -1) (hb : (t2q l vs c.var && g3q Cs.length i c.zero && g3q Cs.length i c.one) = false) : u6q P l lim Cs (f + 1) i m vs bs = (1, false) := by
 unfold u6q
 rw [if_neg hm, hc]
 show (if c.var = -1 then _ else _) = _
 rw [if_neg hv, if_pos hb]
theorem v1k {P : Pm} {c : k9q} (hm : m ≠ 0) (hc : Cs[i]? = some c) (hv : c.var ≠ -1) (hb : (t2q l vs c.var && g3q Cs.length i c.zero && g3q Cs.length i c.one) = true)
  (h0 : u6q P l lim Cs f c.zero.toNat (m - 1) (vs ++ [c.var]) (bs ++ [0]) = (v0, false)) : u6q P l lim Cs (f + 1) i m vs bs = (1 + v0, false) := by
 unfold u6q
 rw [if_neg hm, hc]
 show (if c.var = -1 then _ else _) = _
 rw [if_neg hv, if_neg (by rw [hb]; simp), h0, if_pos rfl]
theorem j5z {P : Pm} {v1 : Nat} {b1 : Bool} {c : k9q} (hm : m ≠ 0) (hc : Cs[i]? = some c) (hv : c.var ≠ -1) (hb : (t2q l vs c.var && g3q Cs.length i c.zero && g3q Cs.length i c.one) = true)
  (h0 : u6q P l lim Cs f c.zero.toNat (m - 1) (vs ++ [c.var]) (bs ++ [0]) = (v0, true)) (h1 : u6q P l lim Cs f c.one.toNat (m - 1 - v0) (vs ++ [c.var]) (bs ++ [1]) = (v1, b1)) : u6q P l lim Cs (f + 1) i m vs bs = (1 + v0 + v1, b1) := by
 unfold u6q
 rw [if_neg hm, hc]
 show (if c.var = -1 then _ else _) = _
 rw [if_neg hv, if_neg (by rw [hb]; simp), h0, if_neg (by simp), h1]

structure q5z (P : Pm) (l : List Int) : Prop where
 right : j7q P = true
 vars : P.vars ≤ 8
 rows : P.rows.length ≤ 12
 len : l.length ≤ 6
 ok : okV P.vars l = true
structure Way (P : Pm) (l vs bs : List Int) : Prop where
 ok : okV P.vars vs = true
 nd : vs.Nodup
 sub : ∀ v ∈ vs, v ∈ l
 len : vs.length = bs.length
 bit : bs.any j6j = false
theorem Way.nil (P : Pm) (l : List Int) : Way P l [] [] := ⟨rfl, List.nodup_nil, fun v h => (by cases h), rfl, rfl⟩
theorem u8x : ∀ (vs l : List Int), vs.Nodup → (∀ v ∈ vs, v ∈ l) → vs.length ≤ l.length := by
 intro vs
 induction vs with
 | nil => intro l _ _; exact Nat.zero_le _
 | cons v vs ih =>
  intro l hn hs
  rw [List.nodup_cons] at hn
  have hv : v ∈ l := hs v (List.mem_cons_self ..)
  have h1 := ih (l.erase v) hn.2 (fun x hx => by
   have hne : x ≠ v := fun e => hn.1 (e ▸ hx)
   exact (List.mem_erase_of_ne hne).2 (hs x (List.mem_cons_of_mem _ hx)))
  have h2 := List.length_erase_of_mem hv
  have h3 : 0 < l.length := List.length_pos_of_mem hv
  rw [List.length_cons]
  omega
theorem Way.few {P : Pm} (h : Way P l vs bs) : vs.length ≤ l.length := u8x vs l h.nd h.sub
theorem x5z {n : Int} {v : Int} (h : okV n l = true) (hv : 0 ≤ v ∧ v < n) (hc : l.contains v = false) : okV n (l ++ [v]) = true := by
 refine z8z fun i hi => ?_
 rw [List.length_append, List.length_singleton] at hi
 by_cases h9 : i < l.length
 ·
  have e1 : w3q n l i = true := by
   unfold okV at h
   exact List.all_eq_true.1 h i (by simpa using h9)
  have e2 := List.getElem?_eq_getElem h9
  have e3 : (l ++ [v])[i]? = some l[i] := by rw [List.getElem?_append_left h9]; exact e2
  rw [o9q e2] at e1
  rw [o9q e3, List.take_append_of_le_length (Nat.le_of_lt h9)]
  exact e1
 ·
  have hil : i = l.length := by omega
  have e3 : (l ++ [v])[i]? = some v := by rw [hil]; simp
  rw [o9q e3, List.take_append_of_le_length (Nat.le_of_eq hil), hil, List.take_length, hc]
  simp [hv.1, hv.2]
theorem Way.push {P : Pm} {v b : Int} (h : Way P l vs bs) (hl : okV P.vars l = true) (ha : t2q l vs v = true) (hb : b = 0 ∨ b = 1) : Way P l (vs ++ [v]) (bs ++ [b]) := by
 unfold t2q at ha
 rw [Bool.and_eq_true, Bool.not_eq_true'] at ha
 have hm : v ∈ l := by simpa using ha.1
 have hn : v ∉ vs := by simpa using ha.2
 refine ⟨x5z h.ok ?_ ha.2, ?_, fun x hx => ?_, by rw [List.length_append, List.length_append, h.len]; rfl, ?_⟩
 ·
  obtain ⟨i, hi⟩ := List.getElem?_of_mem hm
  exact l6q hl hi
 ·
  rw [List.nodup_append]
  refine ⟨h.nd, by simp, ?_⟩
  intro a ha2 c hc e
  rw [List.mem_singleton] at hc
  rw [← hc, ← e] at hn
  exact hn ha2
 ·
  rcases List.mem_append.1 hx with h9 | h9
  ·
   exact h.sub x h9
  ·
   rw [List.mem_singleton.1 h9]; exact hm
 ·
  rw [List.any_append, h.bit]
  rcases hb with rfl | rfl <;> rfl
theorem u4v {Q : Pm} {r : List Rat × Int × Rat} (hr : (j6x Q vs bs).rows[i]? = some r) : Q.rows[i]? = some r ∨ ∃ k, r = e9q Q.vars.toNat vs bs k := by
 have h9 : (Q.rows ++ m4q Q.vars.toNat vs bs vs.length)[i]? = some r := hr
 by_cases hi : i < Q.rows.length
 ·
  rw [List.getElem?_append_left hi] at h9
  exact .inl h9
 ·
  rw [List.getElem?_append_right (by omega)] at h9
  obtain ⟨k, -, hk⟩ := List.mem_map.1 (List.mem_of_getElem? h9)
  exact .inr ⟨k, hk.symm⟩
theorem u2x {Q : Pm} (h : j7q Q = true) : j7q (j6x Q vs bs) = true := by
 have hg := j2q h
 have h1 := h
 unfold j7q at h1 ⊢
 simp only [Bool.and_eq_true] at h1 ⊢
 refine ⟨h1.1, j2w fun i r _ hr => ?_⟩
 rcases u4v hr with h9 | ⟨k, rfl⟩
 ·
  exact List.all_eq_true.1 h1.2 r (List.mem_of_getElem? h9)
 ·
  simp only [b2q, decide_eq_true_eq]
  show ((x5q Q.vars.toNat ((vs[k]?).getD 0).toNat).length : Int) = Q.vars ∧ (-1 : Int) ≤ 0 ∧ (0 : Int) ≤ 1
  rw [f9q]
  omega
theorem j4x {P : Pm} (h : j7q P = true) : j7q (u7q P l vs bs) = true := u2x (q8x h)
theorem u3v {P : Pm} (h : j7q P = true) : y5q (u7q P l vs bs) xs = y5q P xs := by
 unfold y5q
 rw [j4x h, h]
 rfl
theorem u9k (P : Pm) (l vs bs : List Int) : (u7q P l vs bs).rows.length = P.rows.length + l.length + vs.length := by
 show ((P.rows ++ m5q P.vars.toNat l l.length) ++ m4q P.vars.toNat vs bs vs.length).length = _
 rw [List.length_append, List.length_append, n5q, r6q]
theorem q5z.sizes {P : Pm} (h : q5z P l) (hw : Way P l vs bs) (hx : xs.length ≤ 41) (hz : zs.length ≤ 41) : f4q 13 (u7q P l vs bs) xs zs := by
 have hr := u9k P l vs bs
 have hf := hw.few
 have hg := j2q h.right
 have h1 := h.vars
 have h2 := h.rows
 have h3 := h.len
 have e1 : (u7q P l vs bs).vars = P.vars := rfl
 have e2 : (u7q P l vs bs).goal = P.goal := rfl
 have e3 : (u7q P l vs bs).free = P.free := rfl
 refine ⟨⟨?_, ?_, ?_, ?_⟩, ?_, ?_, ?_, ?_, ?_, ?_, ⟨?_, ?_⟩, ?_, ?_⟩ <;> (try rw [e1]) <;> (try rw [e2]) <;> (try rw [e3]) <;> omega
theorem q5z.fit {P : Pm} (h : q5z P l) : Fit P := by
 have hg := j2q h.right
 have h1 := h.vars
 have h2 := h.rows
 refine ⟨?_, ?_, ?_, ?_⟩ <;> omega
theorem q5z.sizes0 {P : Pm} (h : q5z P l) (hx : xs.length ≤ 41) : w9q 13 P xs := by
 have hg := j2q h.right
 have h1 := h.vars
 refine ⟨h.fit, ?_, ?_, ?_, ?_⟩ <;> omega
def q1y (w : World) (ca : Option Addr) (Cs : List k9q) : Prop := ∀ i c, Cs[i]? = some c → ∃ B off xa xc ya yc za zc, ca = some ⟨B, off, none⟩ ∧
 b7q 13 w (.agg #[.int .i64 c.kind, .slice xa c.xs.length xc, .slice ya c.ys.length yc, .slice za c.zs.length zc]) c.kind c.xs c.ys c.zs ∧ (c.xs.length ≤ 41 ∧ c.zs.length ≤ 41) ∧ (-9223372036854775808 ≤ c.var ∧ c.var ≤ 9223372036854775807) ∧ (-9223372036854775808 ≤ c.zero ∧ c.zero ≤ 9223372036854775807) ∧ (-9223372036854775808 ≤ c.one ∧ c.one ≤ 9223372036854775807) ∧
 ∀ (j : Nat) (u : Value), [Value.int .i64 c.var, Value.int .i64 c.zero, Value.int .i64 c.one, Value.int .i64 c.kind, Value.slice xa c.xs.length xc, Value.slice ya c.ys.length yc, Value.slice za c.zs.length zc][j]? = some u → w.cell? ⟨B, off + i * 7 + j, none⟩ = some u
theorem q1y.below (h : q1y w ca Cs) (hb : Below w.heap.size w w') : q1y w' ca Cs := fun i c hc => by
 obtain ⟨B, off, xa, xc, ya, yc, za, zc, ha, hf, h1, h2, h3, h4, hcell⟩ := h i c hc
 exact ⟨B, off, xa, xc, ya, yc, za, zc, ha, hf.below hb, h1, h2, h3, h4, fun j u hu => q3q hb (hcell j u hu)⟩
theorem j5w.read (h : j5w w ca cn) : ∃ Cs : List k9q, Cs.length = cn ∧ q1y w ca Cs := by
 have h9 := j9x (α := k9q) (n := cn) (Pr := fun i c => ∃ B off xa xc ya yc za zc, ca = some ⟨B, off, none⟩ ∧
  b7q 13 w (.agg #[.int .i64 c.kind, .slice xa c.xs.length xc, .slice ya c.ys.length yc, .slice za c.zs.length zc]) c.kind c.xs c.ys c.zs ∧ (c.xs.length ≤ 41 ∧ c.zs.length ≤ 41) ∧ (-9223372036854775808 ≤ c.var ∧ c.var ≤ 9223372036854775807) ∧ (-9223372036854775808 ≤ c.zero ∧ c.zero ≤ 9223372036854775807) ∧ (-9223372036854775808 ≤ c.one ∧ c.one ≤ 9223372036854775807) ∧
  ∀ (j : Nat) (u : Value), [Value.int .i64 c.var, Value.int .i64 c.zero, Value.int .i64 c.one, Value.int .i64 c.kind, Value.slice xa c.xs.length xc, Value.slice ya c.ys.length yc, Value.slice za c.zs.length zc][j]? = some u → w.cell? ⟨B, off + i * 7 + j, none⟩ = some u) (fun i hi => by
  obtain ⟨B, off, a, b, c, k, xa, xn, xc, ya, yn, yc, za, zn, zc, ha, hC, hS, r1, r2, r3, hcell⟩ := h i hi
  obtain ⟨xs, hxl, hXF⟩ := hC.2.2.2.1.listF (by omega) hS.2.1
  obtain ⟨ys, hyl, hYF⟩ := hC.2.2.2.2.1.listF (by omega) hS.2.2.1
  obtain ⟨zs, hzl, hZF⟩ := hC.2.2.2.2.2.listF (by omega) hS.2.2.2
  obtain ⟨s1, s2, s3⟩ := hS.1
  subst hxl
  subst hyl
  subst hzl
  exact ⟨⟨a, b, c, k, xs, ys, zs⟩, B, off, xa, xc, ya, yc, za, zc, ha, ⟨xa, xc, ya, yc, za, zc, rfl, hXF.up (by omega), hYF.up (by omega), hZF.up (by omega)⟩, ⟨s1, s3⟩, r1, r2, r3, hcell⟩)
 exact h9
section
variable {P : Program} {ops : Array Oper} {Q : Exit → Act → World → Prop} {md : Region.Mode} {S : World → Prop} {L : List Nat}

def k0q (P : Program) (md : Region.Mode) (ops : Array Oper) (Q : Exit → Act → World → Prop) (S : World → Prop) (L : List Nat) : Nat → Array Bool → Act → World → Prop
 | 0, ls, a, w => Region.ready md ops ls = [] ∧ Q .normal a w
 | k + 1, ls, a, w => (Region.ready md ops ls = [] → Q .normal a w) ∧
  ∀ i ∈ Region.ready md ops ls, wpOp P ops Q i (fun a' w' => (L.contains i = false → S w → S w') ∧ k0q P md ops Q S L k (ls.setIfInBounds i true) a' w') a w
theorem v9x : ∀ (k : Nat) (ls : Array Bool) (a : Act) (w : World), k0q P md ops Q S L k ls a w → wpAny P md ops Q k ls a w := by
 intro k
 induction k with
 | zero => exact fun _ _ _ h => h
 | succ k ih => exact fun ls a w h => ⟨h.1, fun i hi => wpOp_mono (fun a' w' h' => ih _ a' w' h'.2) (h.2 i hi)⟩
def z7j (md : Region.Mode) (ops : Array Oper) (L i : Nat) : Bool :=
 match ops[L]? with
 | some o => o.after.any fun e => Region.binds md e && e.on == i
 | none => false
theorem x5j {ls : Array Bool} (hw : z7j md ops m i = true) (hi : i ∈ Region.ready md ops ls) : m ∉ Region.ready md ops ls := by
 intro hL
 obtain ⟨-, oL, hoL, hall⟩ := mem_ready.1 hL
 have hun := (mem_ready.1 hi).1
 unfold z7j at hw
 rw [hoL] at hw
 simp only [Array.any_eq_true'] at hw
 obtain ⟨e, he, hb⟩ := hw
 rw [Bool.and_eq_true, beq_iff_eq] at hb
 have h1 := hall e he hb.1
 rw [hb.2] at h1
 rcases Nat.lt_or_ge i ls.size with h9 | h9
 ·
  simp [h9] at hun h1
  rw [hun] at h1; cases h1
 ·
  simp [Array.getElem?_eq_none h9] at h1

theorem u6x {oi : Oper} (hi : ops[i]? = some oi) (hsel : ∀ (j : Nat) (o : Oper) cs b, ops[j]? = some o → o.op ≠ .select cs b)
  (hQ : ∀ c a w, Q (.panic c) (a.put oi.dst v) w → Q (.panic c) a w) (hw : ∀ m, L.contains m = true → z7j md ops m i = true) :
  ∀ (k : Nat) (ls : Array Bool) (a : Act) (w : World),
   (∀ j oj, ops[j]? = some oj → j ≠ i → ls.getD j true = false → (∀ e ∈ oj.after, Region.binds md e = true → e.on ≠ i) → oi.apart ops oj = true) →
   i ∈ Region.ready md ops ls → YieldsIf P ops S oi v a → S w →
   k0q P md ops Q S L k (ls.setIfInBounds i true) (a.put oi.dst v) w → k0q P md ops Q S L (k + 1) ls a w := by
 intro k
 induction k with
 | zero =>
  intro ls a w _ hr hy hS H
  refine ⟨fun h => (by rw [h] at hr; cases hr), fun j hj => ?_⟩
  by_cases hji : j = i
  ·
   subst hji
   exact hy.wpOp hi hS ⟨fun _ h => h, H⟩
  ·
   have h9 := ready_mono hj hji
   rw [H.1] at h9
   cases h9
 | succ k ih =>
  intro ls a w hfree hr hy hS H
  refine ⟨fun h => (by rw [h] at hr; cases hr), fun j hj => ?_⟩
  by_cases hji : j = i
  ·
   subst hji
   exact hy.wpOp hi hS ⟨fun _ h => h, H⟩
  ·
   have hjL : L.contains j = false := by
    cases hc : L.contains j with
    | false => rfl
    | true => exact absurd hj (x5j (hw j hc) hr)
   have h1 := H.2 j (ready_mono hj hji)
   obtain ⟨hjun, oj, hoj, hall⟩ := mem_ready.1 hj
   have hno : ∀ e ∈ oj.after, Region.binds md e = true → e.on ≠ i := fun e he hb heq => by
    have g1 := hall e he hb
    have g0 := (mem_ready.1 hr).1
    rw [heq] at g1
    rcases Nat.lt_or_ge i ls.size with h9 | h9
    ·
     simp [h9] at g0 g1
     rw [g0] at g1; cases g1
    ·
     simp [Array.getElem?_eq_none h9] at g1
   have h2 := wpOp_putIf hoj (hfree j oj hoj hji hjun hno) (fun cs b => hsel i oi cs b hi) (fun cs b => hsel j oj cs b hoj) hQ hy h1
   refine wpOp_mono (fun a' w' h3 => ⟨h3.2.1, ih (ls.setIfInBounds j true) a' w' ?_ (ready_mono hr (Ne.symm hji)) h3.1 (h3.2.1 hjL hS) ?_⟩) h2
   ·
    intro m om hm hmi hun hnm
    refine hfree m om hm hmi ?_ hnm
    by_cases hjm : j = m
    ·
     subst hjm; exact hjun
    ·
     rw [getD_set_ne true hjm] at hun; exact hun
   ·
    rw [Array.setIfInBounds_comm _ _ hji]
    exact h3.2.2
theorem u2j {oi : Oper} (hi : ops[i]? = some oi) (hsel : ∀ (j : Nat) (o : Oper) cs b, ops[j]? = some o → o.op ≠ .select cs b)
  (hQ : ∀ c a w, Q (.panic c) (a.put oi.dst v) w → Q (.panic c) a w) :
  ∀ (k : Nat) (ls : Array Bool) (a : Act) (w : World),
   (∀ j oj, ops[j]? = some oj → j ≠ i → ls.getD j true = false → (∀ e ∈ oj.after, Region.binds md e = true → e.on ≠ i) → oi.apart ops oj = true) →
   i ∈ Region.ready md ops ls → Yields P ops oi v a →
   k0q P md ops Q S L k (ls.setIfInBounds i true) (a.put oi.dst v) w → k0q P md ops Q S L (k + 1) ls a w := by
 intro k
 induction k with
 | zero =>
  intro ls a w _ hr hy H
  refine ⟨fun h => (by rw [h] at hr; cases hr), fun j hj => ?_⟩
  by_cases hji : j = i
  ·
   subst hji
   exact hy.wpOp hi ⟨fun _ h => h, H⟩
  ·
   have h9 := ready_mono hj hji
   rw [H.1] at h9
   cases h9
 | succ k ih =>
  intro ls a w hfree hr hy H
  refine ⟨fun h => (by rw [h] at hr; cases hr), fun j hj => ?_⟩
  by_cases hji : j = i
  ·
   subst hji
   exact hy.wpOp hi ⟨fun _ h => h, H⟩
  ·
   have h1 := H.2 j (ready_mono hj hji)
   obtain ⟨hjun, oj, hoj, hall⟩ := mem_ready.1 hj
   have hno : ∀ e ∈ oj.after, Region.binds md e = true → e.on ≠ i := fun e he hb heq => by
    have g1 := hall e he hb
    have g0 := (mem_ready.1 hr).1
    rw [heq] at g1
    rcases Nat.lt_or_ge i ls.size with h9 | h9
    ·
     simp [h9] at g0 g1
     rw [g0] at g1; cases g1
    ·
     simp [Array.getElem?_eq_none h9] at g1
   have h2 := wpOp_put hoj (hfree j oj hoj hji hjun hno) (fun cs b => hsel i oi cs b hi) (fun cs b => hsel j oj cs b hoj) hQ hy h1
   refine wpOp_mono (fun a' w' h3 => ⟨h3.2.1, ih (ls.setIfInBounds j true) a' w' ?_ (ready_mono hr (Ne.symm hji)) h3.1 ?_⟩) h2
   ·
    intro m om hm hmi hun hnm
    refine hfree m om hm hmi ?_ hnm
    by_cases hjm : j = m
    ·
     subst hjm; exact hjun
    ·
     rw [getD_set_ne true hjm] at hun; exact hun
   ·
    rw [Array.setIfInBounds_comm _ _ hji]
    exact h3.2.2
def v8x (md : Region.Mode) (ops : Array Oper) (L : List Nat) (i : Nat) : Bool := L.all fun m => z7j md ops m i
theorem x3h {oi : Oper} {ls : Array Bool} {a : Act} (hi : ops[i]? = some oi)
  (hs : Region.noSelect ops = true) (hf : Region.free md ops ls i = true) (hr : (Region.ready md ops ls).contains i = true)
  (hQ : ∀ c a w, Q (.panic c) (a.put oi.dst v) w → Q (.panic c) a w) (hw : v8x md ops L i = true) (hy : YieldsIf P ops S oi v a) (hS : S w)
  (h : k0q P md ops Q S L k (ls.setIfInBounds i true) (a.put oi.dst v) w) : k0q P md ops Q S L (k + 1) ls a w :=
 u6x hi (Region.noSelect_spec hs) hQ (fun m hm => List.all_eq_true.1 hw m (by simpa using hm)) k ls a w (Region.free_spec hi hf) (by simpa using hr) hy hS h
theorem y5h {oi : Oper} {ls : Array Bool} {a : Act} (hi : ops[i]? = some oi)
  (hs : Region.noSelect ops = true) (hf : Region.free md ops ls i = true) (hr : (Region.ready md ops ls).contains i = true)
  (hQ : ∀ c a w, Q (.panic c) (a.put oi.dst v) w → Q (.panic c) a w) (hy : Yields P ops oi v a)
  (h : k0q P md ops Q S L k (ls.setIfInBounds i true) (a.put oi.dst v) w) : k0q P md ops Q S L (k + 1) ls a w :=
 u2j hi (Region.noSelect_spec hs) hQ k ls a w (Region.free_spec hi hf) (by simpa using hr) hy h
def j1q (P : Program) (md : Region.Mode) (ops : Array Oper) (Q : Exit → Act → World → Prop) (S : World → Prop) (L : List Nat) (k : Nat) (ls : Array Bool) (a : Act) (w : World) (rs : List Nat) : Prop :=
 ∀ i ∈ rs, wpOp P ops Q i (fun a' w' => (L.contains i = false → S w → S w') ∧ k0q P md ops Q S L k (ls.setIfInBounds i true) a' w') a w
theorem z8q {ls : Array Bool} {a : Act} (hr : Region.ready md ops ls = rs) (hne : rs ≠ []) (h : j1q P md ops Q S L k ls a w rs) : k0q P md ops Q S L (k + 1) ls a w :=
 ⟨fun h0 => absurd (hr ▸ h0) hne, fun i hi => h i (hr ▸ hi)⟩
theorem j1q.nil {ls : Array Bool} {a : Act} : j1q P md ops Q S L k ls a w [] := fun _ h => by cases h
theorem j1q.cons {ls : Array Bool} {a : Act} {o : Oper} (ho : ops[i]? = some o)
  (h : ∀ K : Act → World → Prop, Shut (∀ a w', (L.contains i = false → S w') → ((L.contains i = false → S w') → k0q P md ops Q S L k (ls.setIfInBounds i true) a w') → K a w') → if Region.wanted o (yielded ops a.tmps) = true then Oper.wp P o a w K Q else K (a.put o.dst undef) w)
  (hs : j1q P md ops Q S L k ls a w rs) : j1q P md ops Q S L k ls a w (i :: rs) := fun j hj => by
 rcases List.mem_cons.1 hj with e | hj
 ·
  rw [e]
  exact wpOp_step ho (fun K' hK => h K' (fun a w hS hW => hK a w ⟨fun h1 _ => hS h1, hW hS⟩))
 ·
  exact hs j hj
theorem n6q {ls : Array Bool} {a : Act} (hr : Region.ready md ops ls = []) (h : Q .normal a w) : ∀ k, k0q P md ops Q S L k ls a w
 | 0 => ⟨hr, h⟩
 | _ + 1 => ⟨fun _ => h, by rw [hr]; simp⟩
theorem k4q {id : Nat} {a : Act} (L : List Nat) (S : World → Prop) (hm : P.follows .mixedOrders = true) (hS : S w.drew)
  (h : S w.drew → k0q P .any ops Q S L ops.size (Array.replicate ops.size false) a w.drew) : (Code.region id ops true).wp P Q a w :=
 wp_region_any hm (v9x _ _ _ _ (h hS))
end
theorem ft {P : Program} {ops : Array Oper} {Q : Exit → Act → World → Prop} {md : Region.Mode} {S : World → Prop} {L : List Nat} (i : Nat) {oi : Oper} {v : Value} {k : Nat} {ls ls' : Array Bool} {a a' : Act} {w : World} (h : k0q P md ops Q S L k ls' a' w) (hi : ops[i]? = some oi := by rfl) (hs : Region.noSelect ops = true := by kernel_rfl) (hf : Region.free md ops ls i = true := by kernel_rfl) (hr : (Region.ready md ops ls).contains i = true := by kernel_rfl) (hQ : ∀ c a w, Q (.panic c) (a.put oi.dst v) w → Q (.panic c) a w := by exact fun _ _ _ h => h) (hw : v8x md ops L i = true := by kernel_rfl)
  (hy : YieldsIf P ops S oi v a := by (refine Or.inl ⟨by kernel_rfl, ?_⟩; intro w hSw; (try dsimp only at hSw); go_simp; try with_reducible rfl)) (hS : S w := by assumption) (ha : a.put oi.dst v = a' := by (try simp only [Act.put, List.getElem_toArray, List.getElem_cons_zero, List.getElem_cons_succ, List.setIfInBounds_toArray, List.set_cons_zero, List.set_cons_succ]); exact rfl) (hl : ls.setIfInBounds i true = ls' := by (try simp only [Act.put, List.getElem_toArray, List.getElem_cons_zero, List.getElem_cons_succ, List.setIfInBounds_toArray, List.set_cons_zero, List.set_cons_succ]); exact rfl) : k0q P md ops Q S L (k + 1) ls a w := x3h hi hs hf hr hQ hw hy hS (by rw [ha, hl]; exact h)
theorem fp {P : Program} {ops : Array Oper} {Q : Exit → Act → World → Prop} {md : Region.Mode} {S : World → Prop} {L : List Nat} (i : Nat) {oi : Oper} {v : Value} {k : Nat} {ls ls' : Array Bool} {a a' : Act} {w : World} (h : k0q P md ops Q S L k ls' a' w) (hi : ops[i]? = some oi := by rfl) (hs : Region.noSelect ops = true := by kernel_rfl) (hf : Region.free md ops ls i = true := by kernel_rfl) (hr : (Region.ready md ops ls).contains i = true := by kernel_rfl) (hQ : ∀ c a w, Q (.panic c) (a.put oi.dst v) w → Q (.panic c) a w := by exact fun _ _ _ h => h)
  (hy : Yields P ops oi v a := by (refine Or.inl ⟨by rfl, ?_⟩; intro w; go_simp; try with_reducible rfl)) (ha : a.put oi.dst v = a' := by (try simp only [Act.put, List.getElem_toArray, List.getElem_cons_zero, List.getElem_cons_succ, List.setIfInBounds_toArray, List.set_cons_zero, List.set_cons_succ]); exact rfl) (hl : ls.setIfInBounds i true = ls' := by (try simp only [Act.put, List.getElem_toArray, List.getElem_cons_zero, List.getElem_cons_succ, List.setIfInBounds_toArray, List.set_cons_zero, List.set_cons_succ]); exact rfl) : k0q P md ops Q S L (k + 1) ls a w := y5h hi hs hf hr hQ hy (by rw [ha, hl]; exact h)
theorem fn9 {P : Program} {ops : Array Oper} {Q : Exit → Act → World → Prop} {md : Region.Mode} {S : World → Prop} {L : List Nat} (i : Nat) {oi : Oper} {k : Nat} {ls ls' : Array Bool} {a a' : Act} {w : World} (h : k0q P md ops Q S L k ls' a' w) (hi : ops[i]? = some oi := by rfl) (hs : Region.noSelect ops = true := by kernel_rfl) (hf : Region.free md ops ls i = true := by kernel_rfl) (hr : (Region.ready md ops ls).contains i = true := by kernel_rfl) (hQ : ∀ c a w, Q (.panic c) (a.put oi.dst undef) w → Q (.panic c) a w := by exact fun _ _ _ h => h)
  (hy : Yields P ops oi undef a := by exact Or.inr ⟨by rfl, rfl⟩) (ha : a.put oi.dst undef = a' := by (try simp only [Act.put, List.getElem_toArray, List.getElem_cons_zero, List.getElem_cons_succ, List.setIfInBounds_toArray, List.set_cons_zero, List.set_cons_succ]); exact rfl) (hl : ls.setIfInBounds i true = ls' := by (try simp only [Act.put, List.getElem_toArray, List.getElem_cons_zero, List.getElem_cons_succ, List.setIfInBounds_toArray, List.set_cons_zero, List.set_cons_succ]); exact rfl) : k0q P md ops Q S L (k + 1) ls a w := y5h hi hs hf hr hQ hy (by rw [ha, hl]; exact h)
theorem lyf {P : Program} {ops : Array Oper} {Q : Exit → Act → World → Prop} {md : Region.Mode} {S : World → Prop} {L : List Nat} {k : Nat} {ls ls' : Array Bool} {a a' : Act} {w : World} (h : k0q P md ops Q S L k ls' a' w) (ha : a = a' := by (try simp only [Act.put, List.getElem_toArray, List.getElem_cons_zero, List.getElem_cons_succ, List.setIfInBounds_toArray, List.set_cons_zero, List.set_cons_succ]); exact rfl) (hl : ls = ls' := by (try simp only [Act.put, List.getElem_toArray, List.getElem_cons_zero, List.getElem_cons_succ, List.setIfInBounds_toArray, List.set_cons_zero, List.set_cons_succ]); exact rfl) : k0q P md ops Q S L k ls a w := by rw [ha, hl]; exact h
end Go.Proofs.YtkkbmlkpgknhgaaGreat
namespace Go.Proofs.YtkkbmlkpgknhgaaGreat
open Go.RowKit
attribute [local go_sem ↓] Go.wp_at_zero Go.wp_at_succ
variable {Cs : List k9q} {bs l vs : List Int} {ca fa ga oa va : Option Addr} {cc cn f fc fn gc gn i k m n oc rn v0 vc : Nat} {lim : Option Rat} {lv v : Value} {rs : List Nat} {w w' : World} {xs zs : List Rat}
def z7v (w : World) (lv : Value) (lim : Option Rat) : Prop := match lim with
 | none => lv = .pointer none
 | some q => ∃ G b a1 n1 c1 a2 n2 c2, lv = .pointer (some ⟨G, 0, none⟩) ∧ w.cell? ⟨G, 0, none⟩ = some (.bool b) ∧ w.cell? ⟨G, 1, none⟩ = some (.slice a1 n1 c1) ∧ w.cell? ⟨G, 2, none⟩ = some (.slice a2 n2 c2) ∧ InF w (.agg #[.bool b, .slice a1 n1 c1, .slice a2 n2 c2]) q
theorem z7v.below (h : z7v w lv lim) (hb : Below w.heap.size w w') : z7v w' lv lim := by
 cases lim with
 | none => exact h
 | some q =>
  obtain ⟨G, b, a1, n1, c1, a2, n2, c2, hl, h0, h1, h2, hf⟩ := h
  exact ⟨G, b, a1, n1, c1, a2, n2, c2, hl, q3q hb h0, q3q hb h1, q3q hb h2, hf.below hb⟩
def j2v (w : World) (P : Pm) (l : List Int) (lim : Option Rat) (Cs : List k9q) (lv : Value) (n : Nat) (fa : Option Addr) (fn fc : Nat) (ga : Option Addr) (gn gc : Nat) (oa : Option Addr) (rn oc : Nat) (va : Option Addr) (m vc : Nat) (ca : Option Addr) (cn cc : Nat) : Prop :=
 (LRo (rkI 13) w 0 (.slice oa rn oc) (b6q P l).rows ∧ rn = (b6q P l).rows.length ∧ (n : Int) = P.vars) ∧ y9q 13 w (.agg #[.int .i64 (n : Nat), .slice fa fn fc, .slice ga gn gc, .slice oa rn oc]) (b6q P l) ∧ (v8q w va l ∧ m = l.length) ∧ (q1y w ca Cs ∧ cn = Cs.length ∧ cn ≤ 800) ∧ z7v w lv lim ∧ q5z P l
theorem j2v.below {P : Pm} (h : j2v w P l lim Cs lv n fa fn fc ga gn gc oa rn oc va m vc ca cn cc) (hb : Below w.heap.size w w') : j2v w' P l lim Cs lv n fa fn fc ga gn gc oa rn oc va m vc ca cn cc := by
 obtain ⟨⟨h1, h2⟩, h3, ⟨h4, h5⟩, ⟨h6, h7⟩, h8, h9⟩ := h
 exact ⟨⟨h1.below hb, h2⟩, h3.below hb, ⟨h4.below hb, h5⟩, ⟨h6.below hb, h7⟩, h8.below hb, h9⟩
theorem v4k (h : bs.any j6j = false) {i : Nat} {z : Int} (hz : bs[i]? = some z) : z = 0 ∨ z = 1 := by
 have h1 := List.any_eq_false.1 h z (List.mem_of_getElem? hz)
 unfold j6j at h1
 simp at h1
 omega
theorem v4h {P : Pm} (h : j7q P = true) : ∀ r ∈ (b6q P l).rows, r.1 ≠ [] := fun r hr e => by
 obtain ⟨i, hi⟩ := List.getElem?_of_mem hr
 have h1 := r2q (q8x (l := l) h) hi
 have h2 := j2q h
 rw [e] at h1
 have h3 : (b6q P l).vars = P.vars := rfl
 rw [h3] at h1
 simp at h1
 omega
theorem y1v {P : Pm} : (u7q P l vs bs).rows = (b6q P l).rows ++ m4q P.vars.toNat vs bs vs.length := rfl
theorem u8v {w2 : World} {P : Pm} {oa2 : Option Addr} {oc2 : Nat} (hP : y9q 13 w (.agg #[.int .i64 (n : Nat), .slice fa fn fc, .slice ga gn gc, .slice oa rn oc]) (b6q P l)) (hb : Below w.heap.size w w2) (hrb : j7q P = true) (hk : k = (u7q P l vs bs).rows.length) (hL : LRo (rkI 13) w2 0 (.slice oa2 k oc2) (u7q P l vs bs).rows) :
  y9q 13 w2 (.agg #[.int .i64 (n : Nat), .slice fa fn fc, .slice ga gn gc, .slice oa2 k oc2]) (u7q P l vs bs) := by
 obtain ⟨fa', fc', ga', gc', ra', rc', hv, h1, h2, hf, hg, -⟩ := hP
 simp only [Value.agg.injEq, Array.mk.injEq, List.cons.injEq, Value.int.injEq, Value.slice.injEq, and_true, true_and] at hv
 obtain ⟨e1, ⟨rfl, e2, rfl⟩, ⟨rfl, e3, rfl⟩, -⟩ := hv
 have e1' : (n : Int) = P.vars := e1
 refine ⟨fa, fc, ga, gc, oa2, oc2, ?_, h1, h2, hf.below hb, hg.below hb, fun i r hr => ?_⟩
 ·
  subst hk
  show _ = Value.agg #[.int .i64 P.vars, .slice fa P.free.length fc, .slice ga P.goal.length gc, .slice oa2 (u7q P l vs bs).rows.length oc2]
  rw [← e1', show P.free.length = fn from e2.symm, show P.goal.length = gn from e3.symm]
 ·
  obtain ⟨r', B, off, ar, nr, cr, b, a1, n1, c1, a2, n2, c2, hr', ha, hc, hl, hff, -⟩ := hL.at (i := i) (by rw [hk]; exact (List.getElem?_eq_some_iff.1 hr).1)
  rw [hr] at hr'
  cases hr'
  obtain ⟨k0, k1, k2, k3, k4⟩ := hc w2 qb
  have hl' : z1q 13 w2 (.slice ar nr cr) r.1 := hl
  obtain ⟨ar', cr', hq, -⟩ := id hl'
  simp only [Value.slice.injEq] at hq
  obtain ⟨rfl, rfl, rfl⟩ := hq
  have hsn := q2j (j4x (l := l) (vs := vs) (bs := bs) hrb) hr
  exact ⟨B, off, ha, ar, _, b, a1, n1, c1, a2, n2, c2, k0, k1, k2, k3, k4, hl', hff, by omega, by omega⟩
theorem x3x {P : Pm} {T m2 vvc m3 bvc xn xc yn yc zn zc : Nat} {vis k : Int} {vva bva xa ya za : Option Addr} {ys : List Rat} (h : j2v w P l lim Cs lv n fa fn fc ga gn gc oa rn oc va m vc ca cn cc)
  (hT : w.heap[T]? = some (.cells #[.int .i64 (n : Nat), .slice fa fn fc, .slice ga gn gc, .slice oa rn oc, .slice va m vc, .slice ca cn cc, .int .i64 vis, .slice vva m2 vvc, .slice bva m3 bvc] 99 (0, 0))) (hvs : v8q w vva vs) (hbs : v8q w bva bs) (hm2 : m2 = vs.length) (hm3 : m3 = bs.length) (hway : Way P l vs bs)
  (hc : b7q 13 w (.agg #[.int .i64 k, .slice xa xn xc, .slice ya yn yc, .slice za zn zc]) k xs ys zs) (hx : xs.length ≤ 41) (hz : zs.length ≤ 41) {cq : k9q} (hk : cq.kind = k) (hxs : cq.xs = xs) (hys : cq.ys = ys) (hzs : cq.zs = zs) :
  Calls Tryz.prog 104 #[.pointer (some ⟨T, 0, none⟩), .agg #[.int .i64 k, .slice xa xn xc, .slice ya yn yc, .slice za zn zc], lv] w fun e w' => e = .returned (.bool (s0q (u7q P l vs bs) lim cq)) ∧ Below w.heap.size w w' := by
 obtain ⟨⟨hL, hrn, hn⟩, hP, -, -, hlim, htask⟩ := h
 have HT := hdd htask
 have HW := hdd hway
 have HRB := hdd htask.right
 have HSZ := hdd (htask.sizes hway hx hz)
 have HSV : Hi (w9q 13 (u7q P l vs bs) xs) := hdd ⟨HSZ.o.1, HSZ.o.2.1, HSZ.o.2.2.2.2.1, HSZ.o.2.2.2.2.2.1, HSZ.o.2.2.2.2.2.2.2.1.1⟩
 have hg := j2q htask.right
 have hv8 := htask.vars
 have hn1 : 0 < n ∧ n ≤ 8 := by omega
 have hrn9 : rn ≤ 18 := by
  rw [hrn]
  show (P.rows ++ m5q P.vars.toNat l l.length).length ≤ 18
  rw [List.length_append, n5q]
  have := htask.rows
  have := htask.len
  omega
 have hm6 : m2 ≤ 6 := by
  have h1 := hway.few
  have h2 := htask.len
  omega
 have hm23 : m3 = m2 := by rw [hm3, hm2, hway.len]
 subst hm23
 have HN1 : Hi (0 < n ∧ n ≤ 8 ∧ rn ≤ 18 ∧ m3 ≤ 6) := hdd ⟨hn1.1, hn1.2, hrn9, hm6⟩
 have HNV : Hi (P.vars.toNat = n) := hdd (by rw [← hn]; exact Int.toNat_natCast n)
 have HNEN : Hi (∀ r ∈ (b6q P l).rows ++ m4q n vs bs m3, r.1 ≠ []) := hdd (fun r hr => by
  rcases List.mem_append.1 hr with h9 | h9
  ·
   exact v4h htask.right r h9
  ·
   obtain ⟨i, -, rfl⟩ := List.mem_map.1 h9
   exact z9z HN1.o.1)
 have KB : Hi (∀ w', Below w.heap.size w w' → Calls Tryz.prog 32 #[.agg #[.int .i64 (n : Nat), .slice fa fn fc, .slice ga gn gc, .slice oa rn oc], .slice vva m3 vvc, .slice bva m3 bvc] w' fun e w'' => (∃ oa oc, e = .returned (.agg #[.int .i64 (n : Nat), .slice fa fn fc, .slice ga gn gc, .slice oa (rn + m3) oc]) ∧ LRo (rkI 13) w'' 0 (.slice oa (rn + m3) oc) ((b6q P l).rows ++ m4q n vs bs m3)) ∧ Below w'.heap.size w' w'') := hdd (fun w' hb => x3y (hL.below hb) (v4h htask.right) (by omega) (by omega) hn1.1 (fun i z hz => Nat.le_trans (y4z (v4k hway.bit hz)) (by omega)) (hvs.below hb) (hbs.below hb) (by omega) hway.len (fun i v hv => by have := l6q hway.ok hv; omega) (by omega) (by omega) (by omega))
 have HP := hdd hP
 have HC := hdd hc
 have HLIM := hdd hlim
 obtain ⟨xa', xc', ya', yc', za', zc', hq, hX, -, -⟩ := id hc
 simp only [Value.agg.injEq, Array.mk.injEq, List.cons.injEq, Value.slice.injEq, and_true, true_and] at hq
 obtain ⟨⟨rfl, hxn, rfl⟩, -, -⟩ := hq
 subst hxn
 have HX := hdd hX
 have HXL : Hi (xs.length ≤ 41) := hdd hx
 have HE : Hi (∀ b, b = j4q (u7q P l vs bs) k xs ys zs → s0q (u7q P l vs bs) lim cq = (b && (decide (k = 2) || z7w (u7q P l vs bs) lim cq))) := hdd (fun b hb => by
  unfold s0q
  rw [hk, hxs, hys, hzs, ← hb])
 have HLB : Hi (∀ q, z7w (u7q P l vs bs) (some q) cq = (decide (k = 1) && decide (z7q (y5q (u7q P l vs bs) xs) q ≤ 0))) := hdd (fun q => by
  unfold z7w
  rw [hk, hxs])
 obtain ⟨cq', hcq⟩ : ∃ x, x = s0q (u7q P l vs bs) lim cq := ⟨_, rfl⟩
 rw [← hcq] at HE ⊢
 have HM2 : Hi (m3 = vs.length) := hdd hm2
 have HRN : Hi (rn = (b6q P l).rows.length) := hdd hrn
 obtain ⟨xn, hxn⟩ := qx (xs.length)
 rw [← hxn] at HC HX ⊢
 clear hcq hk hxs hys hzs hX hx hz hlim hP hL hrn hn htask hway hvs hbs hm2 hm3 hc hg hv8 hn1 hrn9 hm6 hxn
 have HTT : Hi (w.heap[T]? = _) := hdd hT
 clear hT
 obtain ⟨w1, hw1, HB1, HX1⟩ := al1 w #[.int .i64 k, .slice xa xn xc, .slice ya yn yc, .slice za zn zc] 66
 have HT1 := hdd ((HB1.o.block _ (lt_of_block HTT.o)).trans HTT.o)
 have HW1 := hdd hw1.symm
 clear hw1
 have RX := hdd (q1q HX1.o)
 have RT := hdd (q1q HT1.o)
 replace KB := hdd (fun w' (hb : Below w1.heap.size w1 w') => KB.o w' (q0q HB1.o hb))
 go_enter Tryz.func104, Tryz.ntmps104
 go_wp2_with fail
 rw [HW1.o]
 go_cut [7] (fun sv wc => ∃ (G : Nat) (oa7 : Option Addr) (oc7 : Nat), sv = .pointer (some ⟨G, 0, none⟩) ∧ Hi (wc.heap[G]? = some (.cells #[.int .i64 (n : Nat), .slice fa fn fc, .slice ga gn gc, .slice oa7 (rn + m3) oc7] 26 (0, 0))) ∧ Hi (LRo (rkI 13) wc 0 (.slice oa7 (rn + m3) oc7) ((b6q P l).rows ++ m4q n vs bs m3)) ∧ Hi (Below w1.heap.size w1 wc))
 case first =>
  have hz : Below w1.heap.size w1 w1.drew := q5q qb 1
  refine h2q 14 (fun w' => w'.cell? ⟨T, 0, none⟩ = some (.int .i64 (n : Nat)) ∧ w'.cell? ⟨T, 1, none⟩ = some (.slice fa fn fc) ∧ w'.cell? ⟨T, 2, none⟩ = some (.slice ga gn gc) ∧ w'.cell? ⟨T, 3, none⟩ = some (.slice oa rn oc) ∧ w'.cell? ⟨T, 7, none⟩ = some (.slice vva m3 vvc) ∧ w'.cell? ⟨T, 8, none⟩ = some (.slice bva m3 bvc)) (by kernel_rfl) (by (try dsimp only); refine ⟨?_, ?_, ?_, ?_, ?_, ?_⟩ <;> (first | exact RT.o _ _ rfl _ (by assumption))) (fun hHeld => ?_)
  refine tt 0 ?_
  refine tt 1 ?_
  refine tt 2 ?_
  refine tt 3 ?_
  refine tt 4 ?_
  refine tt 5 ?_
  refine tt 6 ?_
  refine tt 7 ?_
  refine tt 8 ?_
  refine tt 9 ?_
  refine tt 10 ?_
  refine tt 11 ?_
  refine y6q (rs := [12, 13]) (by kernel_rfl) (by simp) ?_
  refine z0q.cons (o := _) rfl (fun K hK => ?_) ?_
  ·
   go_simp
   refine (KB.o _ hz).mono ?_
   rintro en7 w7 ⟨⟨oa7, oc7, rfl, hL7⟩, hb7⟩
   have hz := q0q hz hb7
   try go_wp2_with fail
   refine hK.out _ _ (fun _ => ?_) (fun hHeld => ?_)
   ·
    (try dsimp only); refine ⟨?_, ?_, ?_, ?_, ?_, ?_⟩ <;> (first | exact RT.o _ _ rfl _ (by assumption))
   replace hHeld := hHeld (by decide)
   clear hK K
   try refine lyt ?_
   refine y6q (rs := [13]) (by kernel_rfl) (by simp) (z0q.cons (o := _) rfl (fun K hK => ?_) z0q.nil)
   rw [if_pos (by kernel_rfl)]
   refine r4q rfl ?_
   intro G wA HBX hG hbA
   have hG := Nat.le_trans hz.size hG
   have hz := q0q hz hbA
   have hL7 := hL7.below hbA
   refine hK.out _ _ (fun _ => ?_) (fun hHeld => ?_)
   ·
    (try dsimp only); refine ⟨?_, ?_, ?_, ?_, ?_, ?_⟩ <;> (first | exact RT.o _ _ rfl _ (by assumption))
   replace hHeld := hHeld (by decide)
   clear hK K
   try refine lyt ?_
   refine y6q (rs := [14]) (by kernel_rfl) (by simp) (z0q.cons (o := _) rfl (fun K hK => ?_) z0q.nil)
   rw [if_pos (by kernel_rfl)]
   refine r5q _ _ rfl G rfl _ _ _ _ rfl _ HBX rfl b9q ?_
   intro w9 hr9 ho9
   refine hK.out _ _ (fun h => absurd rfl h) (fun _ => ?_)
   clear hK K
   try refine lyt ?_
   refine d3q (by kernel_rfl) ?_ _
   go_wp2_with fail
   go_meet
   exact ⟨G, oa7, oc7, rfl, hdd hr9, hdd (hL7.otherB (c0q 13) HNEN.o HBX (by decide) u1q k3q ho9), hdd (q4q hz ho9 hG)⟩
  refine z0q.cons (o := _) rfl (fun K hK => ?_) z0q.nil
  rw [if_pos (by kernel_rfl)]
  refine r4q rfl ?_
  intro G wA HBX hG hbA
  have hG := Nat.le_trans hz.size hG
  have hz := q0q hz hbA
  refine hK.out _ _ (fun _ => ?_) (fun hHeld => ?_)
  ·
   (try dsimp only); refine ⟨?_, ?_, ?_, ?_, ?_, ?_⟩ <;> (first | exact RT.o _ _ rfl _ (by assumption))
  replace hHeld := hHeld (by decide)
  clear hK K
  try refine lyt ?_
  refine y6q (rs := [12]) (by kernel_rfl) (by simp) (z0q.cons (o := _) rfl (fun K hK => ?_) z0q.nil)
  go_simp
  refine (KB.o _ hz).mono ?_
  rintro en7 w7 ⟨⟨oa7, oc7, rfl, hL7⟩, hb7⟩
  have hz := q0q hz hb7
  try go_wp2_with fail
  have HBX := (hb7.block _ (lt_of_block HBX)).trans HBX
  refine hK.out _ _ (fun _ => ?_) (fun hHeld => ?_)
  ·
   (try dsimp only); refine ⟨?_, ?_, ?_, ?_, ?_, ?_⟩ <;> (first | exact RT.o _ _ rfl _ (by assumption))
  replace hHeld := hHeld (by decide)
  clear hK K
  try refine lyt ?_
  refine y6q (rs := [14]) (by kernel_rfl) (by simp) (z0q.cons (o := _) rfl (fun K hK => ?_) z0q.nil)
  rw [if_pos (by kernel_rfl)]
  refine r5q _ _ rfl G rfl _ _ _ _ rfl _ HBX rfl b9q ?_
  intro w9 hr9 ho9
  refine hK.out _ _ (fun h => absurd rfl h) (fun _ => ?_)
  clear hK K
  try refine lyt ?_
  refine d3q (by kernel_rfl) ?_ _
  go_wp2_with fail
  go_meet
  exact ⟨G, oa7, oc7, rfl, hdd hr9, hdd (hL7.otherB (c0q 13) HNEN.o HBX (by decide) u1q k3q ho9), hdd (q4q hz ho9 hG)⟩
 case rest =>
  obtain ⟨w2, rfl⟩ : ∃ w8 : World, w8 = wc := ⟨_, rfl⟩
  obtain ⟨G, oa7, oc7, rfl, HG2, HL2, HZ2⟩ := hcut
  have HKN : Hi (rn + m3 = (u7q P l vs bs).rows.length) := hdd (by rw [y1v, List.length_append, r6q, ← HRN.o, ← HM2.o])
  have HPN : Hi (y9q 13 w2 (.agg #[.int .i64 (n : Nat), .slice fa fn fc, .slice ga gn gc, .slice oa7 (rn + m3) oc7]) (u7q P l vs bs)) := hdd (u8v HP.o (q0q HB1.o HZ2.o) HRB.o HKN.o (by rw [y1v, HNV.o, ← HM2.o]; exact HL2.o))
  have HC2 := hdd (HC.o.below (q0q HB1.o HZ2.o))
  have HX2 := hdd (HX.o.below (q0q HB1.o HZ2.o))
  have HLI2 := hdd (HLIM.o.below (q0q HB1.o HZ2.o))
  have KJ := hdd (x5w HPN.o HC2.o HSZ.o)
  obtain ⟨jb, hjb⟩ := qx (j4q (u7q P l vs bs) k xs ys zs)
  rw [← hjb] at KJ
  have HE2 := hdd (HE.o jb hjb)
  clear hjb KB
  have g0 := q1q HG2.o 0 _ rfl _ qb
  have g1 := q1q HG2.o 1 _ rfl _ qb
  have g2 := q1q HG2.o 2 _ rfl _ qb
  have g3 := q1q HG2.o 3 _ rfl _ qb
  obtain ⟨c0, c1, c2, c3⟩ := qz RX.o HZ2.o
  go_wp2_with fail
  refine KJ.o.mono ?_
  rintro en3 w3 ⟨rfl, hb3⟩
  have HB3 := hdd hb3
  have HZ3 := hdd (q0q HZ2.o hb3)
  clear hb3 g0 g1 g2 g3 c0 c1 c2 c3
  cases jb with
  | false =>
   go_wp2_with fail
   go_ret
   exact ⟨by rw [HE2.o]; first | done | rfl, q0q HB1.o HZ3.o⟩
  | true =>
  have RG := hdd (q1q ((HB3.o.block _ (lt_of_block HG2.o)).trans HG2.o))
  have c0 := RX.o 0 _ rfl _ HZ3.o
  by_cases hk2 : k = 2
  ·
   have u2 : (k == 2) = true := by simpa using hk2
   have HEQ2 : Hi (cq' = true) := hdd (by rw [HE2.o]; simp [hk2])
   have c09 := RX.o 0 _ rfl _ (q5q HZ3.o 1)
   go_wp2_with fail
   go_quiet (fail)
   go_wp2_with fail
   go_ret
   exact ⟨by rw [HEQ2.o]; first | done | rfl, q0q HB1.o (q5q HZ3.o _)⟩
  have u2 : (k == 2) = false := by simpa using hk2
  have c09 := RX.o 0 _ rfl _ (q5q HZ3.o 1)
  cases lim with
  | none =>
   have hlv : lv = .pointer none := HLI2.o
   subst hlv
   have HEQ2 : Hi (cq' = false) := hdd (by rw [HE2.o]; simp [hk2, z7w])
   clear hk2
   go_wp2_with fail
   go_quiet (fail)
   go_wp2_with fail
   go_ret
   exact ⟨by rw [HEQ2.o]; first | done | rfl, q0q HB1.o (q5q HZ3.o _)⟩
  | some q =>
   obtain ⟨LG, lb, a1, n1, d1, a2, n2, d2, hlv, hl0, hl1, hl2, hlf⟩ := HLI2.o
   subst hlv
   by_cases hk1 : k = 1
   ·
    have u1 : (k == 1) = true := by simpa using hk1
    have HL0 : Hi (∀ w', Below w2.heap.size w2 w' → w'.cell? ⟨LG, 0, none⟩ = some (.bool lb)) := hdd (fun w' hb => q3q hb hl0)
    have HL1 : Hi (∀ w', Below w2.heap.size w2 w' → w'.cell? ⟨LG, 1, none⟩ = some (.slice a1 n1 d1)) := hdd (fun w' hb => q3q hb hl1)
    have HL2' : Hi (∀ w', Below w2.heap.size w2 w' → w'.cell? ⟨LG, 2, none⟩ = some (.slice a2 n2 d2)) := hdd (fun w' hb => q3q hb hl2)
    have HLF := hdd hlf
    have HVL : Hi (j5q (y5q (u7q P l vs bs) xs) ≤ 4002) := hdd (h8q HPN.o HX2.o (by have := HXL.o; omega) (by have := HXL.o; omega))
    have KV := hdd (fun w' (hb : Below w2.heap.size w2 w') => j4v (HPN.o.below hb) (HX2.o.below hb) HSV.o)
    have HLBQ := hdd (HLB.o q)
    obtain ⟨V, hV⟩ := qx (y5q (u7q P l vs bs) xs)
    rw [← hV] at HVL KV HLBQ
    obtain ⟨o, ho⟩ := qx (z7q V q)
    have KC : Hi (∀ w' y, Below w2.heap.size w2 w' → j3q w' y V → Calls Tryz.prog 103 #[y, .agg #[.bool lb, .slice a1 n1 d1, .slice a2 n2 d2]] w' fun e w'' => e = .returned (.int .i64 o) ∧ Below w'.heap.size w' w'') := hdd (fun w' y hb hy => by rw [ho]; exact z4j (hy.inF (by have := HVL.o; omega)) (HLF.o.below hb))
    have HEQ2 : Hi (cq' = decide (o ≤ 0)) := hdd (by rw [HE2.o, HLBQ.o, ho]; simp [hk2, hk1])
    clear hV ho hk1 hk2 hl0 hl1 hl2 hlf c0 c09
    obtain ⟨cb, hcb⟩ := qx (decide (o ≤ 0))
    have hcb9 : decide (o ≤ 0) = cb := hcb.symm
    have HCB := hdd hcb
    clear hcb
    have hz0 : Below w2.heap.size w2 w3.drew := q5q HB3.o 1
    have hy0 : Below w3.heap.size w3 w3.drew := q5q qb 1
    have hx0 : Below w1.heap.size w1 w3.drew := q5q HZ3.o 1
    go_wp2_with fail
    refine k4q [] (fun w' => w'.cell? ⟨G, 0, none⟩ = some (.int .i64 (n : Nat)) ∧ w'.cell? ⟨G, 1, none⟩ = some (.slice fa fn fc) ∧ w'.cell? ⟨G, 2, none⟩ = some (.slice ga gn gc) ∧ w'.cell? ⟨G, 3, none⟩ = some (.slice oa7 (rn + m3) oc7) ∧ w'.cell? ⟨w.heap.size, 0, none⟩ = some (.int .i64 k) ∧ w'.cell? ⟨w.heap.size, 1, none⟩ = some (.slice xa xn xc) ∧ w'.cell? ⟨LG, 0, none⟩ = some (.bool lb) ∧ w'.cell? ⟨LG, 1, none⟩ = some (.slice a1 n1 d1) ∧ w'.cell? ⟨LG, 2, none⟩ = some (.slice a2 n2 d2)) (by kernel_rfl) (by (try dsimp only); refine ⟨?_, ?_, ?_, ?_, ?_, ?_, ?_, ?_, ?_⟩ <;> (first | exact RG.o _ _ rfl _ (by assumption) | exact RX.o _ _ rfl _ (by assumption) | exact HL0.o _ (by assumption) | exact HL1.o _ (by assumption) | exact HL2'.o _ (by assumption))) (fun hHeld => ?_)
    refine fp 0 ?_
    refine ft 1 ?_
    refine fp 2 ?_
    refine fp 3 ?_
    refine fp 4 ?_
    refine fp 5 ?_
    refine fp 6 ?_
    refine fp 7 ?_
    refine ft 8 ?_
    refine fp 9 ?_
    refine fp 10 ?_
    refine fp 11 ?_
    refine ft 12 ?_
    refine fp 13 ?_
    refine ft 14 ?_
    refine fp 16 ?_
    refine fp 17 ?_
    refine ft 18 ?_
    refine z8q (rs := [15]) (by kernel_rfl) (by simp) (j1q.cons (o := _) rfl (fun K hK => ?_) j1q.nil)
    go_simp
    refine (KV.o _ hz0).mono ?_
    rintro en4 w4 ⟨⟨v4, rfl, f4⟩, hb4⟩
    have hz4 := q0q hz0 hb4
    have hy4 := q0q hy0 hb4
    have hx4 := q0q hx0 hb4
    try go_wp2_with fail
    refine hK.out _ _ (fun _ => ?_) (fun hHeld => ?_)
    ·
     (try dsimp only); refine ⟨?_, ?_, ?_, ?_, ?_, ?_, ?_, ?_, ?_⟩ <;> (first | exact RG.o _ _ rfl _ (by assumption) | exact RX.o _ _ rfl _ (by assumption) | exact HL0.o _ (by assumption) | exact HL1.o _ (by assumption) | exact HL2'.o _ (by assumption))
    replace hHeld := hHeld (by decide)
    clear hK K
    try refine lyf ?_
    refine z8q (rs := [19]) (by kernel_rfl) (by simp) (j1q.cons (o := _) rfl (fun K hK => ?_) j1q.nil)
    go_simp
    refine (KC.o _ _ hz4 f4).mono ?_
    rintro en5 w5 ⟨rfl, hb5⟩
    have hz5 := q0q hz4 hb5
    have hy5 := q0q hy4 hb5
    have hx5 := q0q hx4 hb5
    try go_wp2_with fail
    refine hK.out _ _ (fun _ => ?_) (fun hHeld => ?_)
    ·
     (try dsimp only); refine ⟨?_, ?_, ?_, ?_, ?_, ?_, ?_, ?_, ?_⟩ <;> (first | exact RG.o _ _ rfl _ (by assumption) | exact RX.o _ _ rfl _ (by assumption) | exact HL0.o _ (by assumption) | exact HL1.o _ (by assumption) | exact HL2'.o _ (by assumption))
    replace hHeld := hHeld (by decide)
    clear hK K
    try refine lyf ?_
    refine fp 20 ?_
    refine fp 21 ?_
    refine fp 22 ?_
    refine fp 23 ?_
    refine n6q (by kernel_rfl) ?_ _
    have HZ9 := hdd hx5
    go_wp2_with fail
    go_ret
    exact ⟨by rw [HEQ2.o, HCB.o]; first | done | rfl, q0q HB1.o HZ9.o⟩
   ·
    have u1 : (k == 1) = false := by simpa using hk1
    have HEQ2 : Hi (cq' = false) := hdd (by rw [HE2.o, HLB.o]; simp [hk2, hk1])
    clear hk1 hk2
    go_wp2_with fail
    go_quiet (fail)
    go_wp2_with fail
    go_ret
    exact ⟨by rw [HEQ2.o]; first | done | rfl, q0q HB1.o (q5q HZ3.o _)⟩
end Go.Proofs.YtkkbmlkpgknhgaaGreat
