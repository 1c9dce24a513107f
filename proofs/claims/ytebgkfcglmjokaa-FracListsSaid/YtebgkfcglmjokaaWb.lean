/- The functions of words that make words of their own: sums, differences, shifts. -/
import Derived.Test.YtebgkfcglmjokaaWa
namespace Go.Proofs.Ytebgkfcglmjokaa
open Go.RowKit

theorem uw : Try.prog.underlying 56 = some (.slice 40) := Try.underlying56
theorem iu32 : (Try.prog.info? 40).map (fun i => (i.zero, i.size, i.bytes)) = some (some (.int .u32 0), 1, 4) := by kernel_rfl
theorem su32 : (Try.prog.info? 40).map (·.size) = some 1 := by kernel_rfl

set_option maxHeartbeats 400000 in
theorem clone_b {w : World} {v : Value} {l : List Nat} (h : IsW w v l) (hx : 0 < l.length) :
    Calls Try.prog 87 #[v] w fun e w' => e = .returned (.slice (some ⟨w.heap.size, 0, none⟩) l.length l.length) ∧ Blk w' w.heap.size 40 l ∧ Below w.heap.size w w' ∧ w'.heap.size = w.heap.size + 1 := by
  have hx' : nilB l = false := by simp [nilB]; intro e; subst e; simp at hx
  have hl := h.len
  obtain ⟨a, cap, rfl, h1, h2, h3, h4, h5⟩ := id h
  have H := Lib.hid h
  clear hx h3 h4 h5 h
  go_enter Try.func87, Try.ntmps87
  go_wp2_with fail
  refine (isZero_v H.out).mono ?_
  rintro e w' ⟨rfl, rfl⟩
  go_wp2_with (at_make; refine wpList_make_words rfl _ _ _ _ rfl uw iu32 l.length rfl rfl hl ?_; intro w1 hb1 hbel hs1; refine halt ?_)
  refine go_on ?_
  go_wp2_with ((with_reducible refine at_copy ?_); refine wpList_copy_words rfl (.tmp 9) (.tmp 10) _ _ rfl _ uw su32 _ 0 _ _ _ l _ _ rfl rfl (H.out.below hbel) hb1 (Nat.le_refl _) (by simp) ?_; intro w2 hb2 hon; refine halt ?_)
  refine go_on ?_
  go_wp2_with fail
  go_ret
  refine ⟨rfl, by simpa using hb2, below_only hbel hon (Nat.le_refl _), by rw [hon.size]; exact hs1.out⟩

set_option maxHeartbeats 400000 in
theorem clone_w {w : World} {v : Value} {l : List Nat} (h : IsW w v l) :
    Calls Try.prog 87 #[v] w fun e w' => (∃ v', e = .returned v' ∧ IsW w' v' l ∧ (∀ b, v'.ownBlock = some b → w.heap.size ≤ b)) ∧ Below w.heap.size w w' := by
  by_cases hx : l.length = 0
  · have hx' : nilB l = true := by simp [nilB, hx]
    obtain rfl : l = [] := List.eq_nil_of_length_eq_zero hx
    clear hx
    go_enter Try.func87, Try.ntmps87
    go_wp2_with fail
    refine (isZero_v h).mono ?_
    rintro e w' ⟨rfl, rfl⟩
    go_wp2_with fail
    go_ret
    exact ⟨⟨.slice none 0 0, rfl, IsW.nil _, by simp [Value.ownBlock]⟩, Below.refl _ _⟩
  · refine (clone_b h (by omega)).mono ?_
    rintro e w' ⟨rfl, hb, hbel, -⟩
    exact ⟨⟨_, rfl, hb.isW_all h.ws _ (Nat.le_refl _) h.len, fun b hb => by simp [Value.ownBlock] at hb; omega⟩, hbel⟩

set_option maxHeartbeats 400000 in
theorem increase_w {w : World} {B off n cap : Nat} {e : TypeId} {vb : Value} {L lb : List Nat} (hL : Blk w B e L) (hw : Ws L) (hn : off + n ≤ L.length) (hlen : L.length ≤ 2147483648)
    (hb : IsW w vb lb) (hne : lb ≠ [] → vb.ownBlock ≠ some B) :
    Calls Try.prog 144 #[.slice (some ⟨B, off, none⟩) n cap, vb] w fun en w' => en = .returned (.tuple #[]) ∧
      ∃ L', Blk w' B e L' ∧ Ws L' ∧ L'.length = L.length ∧ Only B w w' ∧ (∀ j, (j < off ∨ off + n ≤ j) → nth L' j = nth L j) ∧ pv L' off n = (pv L off n + val lb) % 4294967296 ^ n := by
  have HW := Lib.hid hw
  have HB := Lib.hid hb
  obtain ⟨ab, capb, rfl, h1, h2, h3, h4, h5⟩ := hb
  clear h3 h4 h5 hw
  go_enter Try.func144, Try.ntmps144
  go_wp2
  go_loopw [4, 8] (fun c i wr => ∃ (k cr : Nat) (M : List Nat), k ≤ n ∧ i = .int .i64 k ∧ c = .int .u64 cr ∧ cr ≤ 1 ∧ Blk wr B e M ∧ Hid (Ws M) ∧ Hid (M.length = L.length) ∧ Only B w wr ∧
      Hid (∀ j, (j < off ∨ off + k ≤ j) → nth M j = nth L j) ∧ Hid (pv M off k + 4294967296 ^ k * cr = pv L off k + pv lb 0 k)) (fun _ i _ => n - (intOf i).toNat)
  case atStart => exact ⟨0, 0, L, Nat.zero_le _, rfl, rfl, by omega, hL, HW, Lib.hid rfl, Only.refl _ _, Lib.hid (fun _ _ => rfl), Lib.hid (by simp [pv_zero])⟩
  case round =>
    obtain ⟨k, cr, M, hk, rfl, rfl, hcr, hM, hMw, hMl, hon, hsame, hval⟩ := hrel
    by_cases hkn : k < n
    · have hx := ws_nth hMw.out (off + k)
      have hy := ws_nth HB.out.ws k
      have hcell := hM.cell (off + k) (by have := hMl.out; omega)
      have hfree := hM.free (off + k)
      have w1 : IntKind.u64.wrap (nth M (off + k) : Int) = (nth M (off + k) : Int) := IntWalk.u64_in _ (by omega)
      have w2 : IntKind.u64.wrap ((nth M (off + k) : Int) + (nth lb k : Int)) = (nth M (off + k) : Int) + (nth lb k : Int) := IntWalk.u64_in _ (by omega)
      have w3 : IntKind.u64.wrap ((cr : Int) + ((nth M (off + k) : Int) + (nth lb k : Int))) = (cr : Int) + ((nth M (off + k) : Int) + (nth lb k : Int)) := IntWalk.u64_in _ (by omega)
      by_cases hkl : lb.length ≤ k
      · by_cases hc0 : cr = 0
        · subst hc0
          clear w1 w2 w3
          go_wp2
          refine bodyPost_ret (results_none rfl _ _ _) rfl ?_
          refine ⟨rfl, M, hM, hMw.out, hMl.out, hon, fun j hj => hsame.out j (by omega), ?_⟩
          exact inc_stop hMw.out hk hkl (fun j hj => hsame.out j (Or.inr hj)) hval.out
        · have hc0' : ((cr : Int) == 0) = false := by simp; omega
          clear hc0
          go_wp2
          go_quiet ((go_at_call 140; exact quiet_left (at_w ((HB.out.only0 hon hne).drewN _) _)))
          clear w1 w2 w3
          go_wp2
          go_roundw
          case rel =>
            exact ⟨k + 1, (cr + (nth M (off + k) + nth lb k)) / 4294967296, M.set (off + k) ((cr + (nth M (off + k) + nth lb k)) % 4294967296), by omega, by go_num, by go_num, by omega,
              (hM.drewN nq).setCell (off + k) _ _ (by unfold U; go_num), Lib.hid (ws_set hMw.out _ (by omega)), Lib.hid (by rw [List.length_set]; exact hMl.out), (hon.drewN nq).setCell _ _,
              Lib.hid (fun j hj => by rw [nth_set_ne _ _ _ _ (by omega)]; exact hsame.out j (by omega)),
              Lib.hid (inc_step (by have := hMl.out; omega) rfl (hsame.out _ (by omega)) hval.out)⟩
          case measure => simp [intOf]; omega
      · go_wp2
        go_quiet ((go_at_call 140; exact quiet_left (at_w ((HB.out.only0 hon hne).drewN _) _)))
        clear w1 w2 w3
        go_wp2
        go_roundw
        case rel =>
          exact ⟨k + 1, (cr + (nth M (off + k) + nth lb k)) / 4294967296, M.set (off + k) ((cr + (nth M (off + k) + nth lb k)) % 4294967296), by omega, by go_num, by go_num, by omega,
            (hM.drewN nq).setCell (off + k) _ _ (by unfold U; go_num), Lib.hid (ws_set hMw.out _ (by omega)), Lib.hid (by rw [List.length_set]; exact hMl.out), (hon.drewN nq).setCell _ _,
            Lib.hid (fun j hj => by rw [nth_set_ne _ _ _ _ (by omega)]; exact hsame.out j (by omega)),
            Lib.hid (inc_step (by have := hMl.out; omega) rfl (hsame.out _ (by omega)) hval.out)⟩
        case measure => simp [intOf]; omega
    · obtain rfl : k = n := by omega
      go_wp2
      go_end0
      exact ⟨rfl, M, hM, hMw.out, hMl.out, hon, fun j hj => hsame.out j hj, inc_end hMw.out hval.out⟩
end Go.Proofs.Ytebgkfcglmjokaa