/-
  The reference's Find.
-/
import Derived.Test.YtlfkomdkimphnaaDoorRAt
namespace Go.Proofs.YtlfkomdkimphnaaDoor
open Go.RowKit

set_option maxRecDepth 100000 in
set_option maxHeartbeats 2000000 in
theorem rfind_ok {w : World} {g : Nat} {v : Value} {size : Nat} {l : List Fld} (h : RTab w g v size l) (f : Fld) : Calls Tryd.prog 21 #[.pointer (some ⟨g, 0, none⟩), fval f] w fun e w' => e = .returned (.tuple #[.int .i64 ((find l f).1 : Int), .bool (find l f).2]) ∧ Keeps nobody w w' := by
  have hfx : Hid (∀ W, Calls Tryd.prog 34 #[] W fun e w' => ∃ v, e = .returned v ∧ w'.ownsRow W.heap.size 28 2 v 16 (fcells always) ∧ Keeps nobody W w') := fixed_ok
  have hR : Hid (∀ w1 vf base ty, Keeps nobody w w1 → base ≤ w1.heap.size → w1.ownsRow base 28 2 vf 16 (fcells always) → ∃ v' w', (Builtin.append_ #[33, 33] ty #[vf, v]).run Tryd.prog w1 = .ok v' w' ∧ Hid (w'.ownsRow base 28 2 v' (always ++ l).length (fcells (always ++ l)) ∧ w1.grownBy w' vf.ownBlock)) := fun w1 vf base ty h1 h2 h3 => rall_run h h1 h2 h3 ty
  obtain ⟨c0, c1, c2⟩ := h.cells
  have hlt := h.lt
  have hl16 := h.length
  have HL : Hid ((always ++ l).length = 16 + l.length) := by show _ = _; rw [List.length_append, always_length]
  have hS : Hid (Seek l f (find l f) 0 0) := rfl
  generalize find l f = r at *
  obtain ⟨rn, rb0⟩ := r
  obtain ⟨fa, fb⟩ := f
  simp only
  clear h
  go_enter Tryd.func21, Tryd.ntmps21
  go_wp2
  go_cut [6] (fun x wx => AllRow (w.alloc (.cells #[.string fa, .string fb] 28)) l x wx)
  case first =>
    have KB := keeps_alloc w (.cells #[.string fa, .string fb] 28)
    clear HL hS
    go_region_law (first | (go_simp; go_at_call 34; refine Calls.mono (hfx.out _) ?_; rintro e w1 ⟨vf, rfl, f1, f2⟩; have g1 := (f2.cell (p := ⟨g, 1, none⟩) (by simp; omega) id); have hlt1 : g < w1.heap.size := Nat.lt_of_lt_of_le (by simp; omega) f2.size; obtain ⟨vx, wx, r1, r2⟩ := hR.out w1 vf _ 33 ((KB.drew).then f2) f2.size f1; have R1 := hid r1; clear r1) | (refine step_append_run rfl (.tmp 9) (.tmp 13) 33 33 rfl vf v (by simp [Act.eval]) (by simp [Act.eval]) R1.out ?_))
    all_goals
      go_wp2_with fail
      go_meet
      exact allRow f2.undrew f1 r2.out
  case rest =>
    obtain ⟨rb, cap, rfl, hrb, hrl, hcm, hnc, hcell, hKx⟩ := hcut
    obtain ⟨n, hn⟩ : ∃ n, (always ++ l).length = n := ⟨_, rfl⟩
    have hn32 : n ≤ 32 := by have := HL.out; omega
    have HN : Hid (n = 16 + l.length) := hn.symm.trans HL.out
    rw [hn] at hnc
    rw [hn]
    have HC := hid hcell
    have HX := hid hKx
    unfold maxLen at hcm
    clear hcell hfx hR c0 c1 c2 HL hn hKx
    go_wp2
    go_loopg [7, 8] n (fun k m i wr => ∃ j nm : Nat, i = .int .i64 j ∧ m = .int .i64 nm ∧ k + j = n ∧ nm ≤ j ∧ Keeps nobody wc wr ∧ Hid (Seek l (fa, fb) (rn, rb0) j nm))
    case atStart => exact ⟨0, 0, rfl, rfl, rfl, by omega, Keeps.refl _ _, hS⟩
    case round =>
      obtain ⟨j, nm, rfl, rfl, hk, hnm, hK, hsk⟩ := hrel
      clear hS
      obtain ⟨b0, b1, b2⟩ := boxed (HX.out.then hK)
      by_cases hj : j < n
      · obtain ⟨x, hx⟩ : ∃ x, (always ++ l)[j]? = some x := ⟨_, List.getElem?_eq_getElem (by rw [List.length_append, always_length, ← HN.out]; exact hj)⟩
        have hst := hid (seek_step l _ _ j nm x hx hsk.out)
        obtain ⟨d0, d1⟩ := HC.out wr hK j x hx
        have hrw : rb < wr.heap.size := Nat.lt_of_lt_of_le hrl hK.size
        obtain ⟨xa, xb⟩ := x
        simp only at d0 d1
        clear hx hsk HC
        have HK := hid hk
        clear hk
        by_cases e1 : xa = fa
        · by_cases e2 : xb = fb
          · subst e1
            subst e2
            obtain ⟨rfl, rfl⟩ : rn = j + 1 ∧ rb0 = true := by
              have := hst.out
              rw [if_pos rfl] at this
              simpa using this
            have q1 : (xa.toList == xa.toList) = true := beq_list_of_eq rfl
            have q2 : (xb.toList == xb.toList) = true := beq_list_of_eq rfl
            have hKe := (keeps_alloc w _).then (HX.out.then hK)
            clear hst HX
            as_aux_lemma =>
              go_wp2
              go_region
              go_wp2
              go_ret2
              exact ⟨by simp, hKe.drew⟩
          · subst e1
            have q1 : (xa.toList == xa.toList) = true := beq_list_of_eq rfl
            have q2 := beq_list_of_ne e2
            have hs2 := hst.out
            rw [if_neg (by simpa using e2)] at hs2
            clear hst e2 HX
            by_cases e3 : nm = 0
            · subst e3
              have HS : Hid (Seek l (xa, fb) (rn, rb0) (j + 1) (j + 1)) := by
                rw [if_pos ⟨rfl, rfl⟩] at hs2
                exact hs2
              clear hs2
              as_aux_lemma =>
                go_wp2
                go_region
                go_wp2
                go_region
                go_wp2
                have hk := HK.out
                go_roundg (gk - 1)
                case measure => omega
                case rel => exact ⟨j + 1, j + 1, by simp, by simp, by omega, by omega, hK.drew.drew, HS⟩
            · have HS : Hid (Seek l (xa, fb) (rn, rb0) (j + 1) nm) := by
                rw [if_neg (fun h => e3 h.1)] at hs2
                exact hs2
              have q3 : ((nm : Int) == 0) = false := by simp; omega
              clear hs2 e3
              as_aux_lemma =>
                go_wp2
                go_region
                go_wp2
                go_region
                go_wp2
                have hk := HK.out
                go_roundg (gk - 1)
                case measure => omega
                case rel => exact ⟨j + 1, nm, by simp, rfl, by omega, by omega, hK.drew.drew, HS⟩
        · have q1 := beq_list_of_ne e1
          have HS : Hid (Seek l (fa, fb) (rn, rb0) (j + 1) nm) := by
            have := hst.out
            rw [if_neg (by simp; exact fun h => absurd h e1), if_neg (fun h => e1 h.2)] at this
            exact this
          clear hst e1 HX
          as_aux_lemma =>
            go_wp2
            go_region
            go_wp2
            go_region
            go_wp2
            have hk := HK.out
            go_roundg (gk - 1)
            case measure => omega
            case rel => exact ⟨j + 1, nm, by simp, rfl, by omega, by omega, hK.drew.drew, HS⟩
      · obtain ⟨rfl, rfl⟩ : rn = nm ∧ rb0 = false := by simpa using seek_end l _ _ j nm (by rw [← HN.out]; exact hj) hsk.out
        have hKe := (keeps_alloc w _).then (HX.out.then hK)
        clear hsk hk HC HX
        go_wp2
        go_ret2
        exact ⟨rfl, hKe⟩
end Go.Proofs.YtlfkomdkimphnaaDoor
