/-
  bywashbook: markedInts.
-/
import Derived.Test.YtkodpoijdaoihaaCPut
namespace Go.Proofs.Ytkodpoijdaoihaa
open Go.RowKit

set_option maxRecDepth 100000 in
set_option maxHeartbeats 2000000 in
theorem markedInts_ok {w : World} {v : Value} {ps : List PL} (h : Lists w v ps) (hn : ps.length ≤ 250) (hl : ∀ (i : Nat) (p : PL), ps[i]? = some p → p.2.length ≤ 1000 ∧ p.2 = marks i 0 p.2.length) :
    Calls Try.prog 39 #[v] w fun e w' => e = .returned (.bool true) ∧ Keeps nobody w w' := by
  by_cases h0 : ps.length = 0
  · have hfn : ∃ a c, v = .slice a 0 c := by
      rcases h.outer.2 with ⟨rfl, hx⟩ | ⟨rb, cap, cur, rfl, _⟩
      · exact ⟨none, 0, rfl⟩
      · rw [h0]; exact ⟨_, _, rfl⟩
    obtain ⟨fa, fc, rfl⟩ := hfn
    clear h h0 hn hl
    go_enter Try.func39, Try.ntmps39
    go_wp2
    go_loopg [3] 0 (fun k i wr => i = .int .i64 0 ∧ wr = w)
    case atStart => exact ⟨rfl, rfl⟩
    case round =>
      obtain ⟨rfl, rfl⟩ := hrel
      go_wp2
      go_ret
      exact ⟨rfl, Keeps.refl _ _⟩
  · rcases h.outer.2 with ⟨_, hx⟩ | ⟨rf, cf1, curf, rfl, _, _, hnf, hcf, _⟩
    · exact absurd hx h0
    have hrf := (h.outer.lt rf rfl).2
    unfold maxLen at hcf
    have HB := hid h
    have Hl := hid hl
    clear h hl h0
    go_enter Try.func39, Try.ntmps39
    go_wp2
    go_loopg [3] ps.length (fun k i wr => ∃ j : Nat, i = .int .i64 j ∧ k + j = ps.length ∧ Keeps nobody w wr)
    case atStart => exact ⟨0, rfl, rfl, Keeps.refl _ _⟩
    case round =>
      obtain ⟨j, rfl, hk, hK⟩ := hrel
      by_cases hj : j < ps.length
      · have q1 : wr.cell? ⟨rf, j, none⟩ = some (ps[j]'hj).1 := (hK.cell (p := ⟨rf, j, none⟩) hrf id).trans (list_cell HB.out j hj)
        have hrow := HB.out.rows _ (List.getElem_mem hj)
        obtain ⟨hll, hma⟩ := Hl.out j _ (List.getElem?_eq_getElem hj)
        generalize ps[j]'hj = m at *
        obtain ⟨mv, l⟩ := m
        simp only at hrow q1 hll hma
        obtain ⟨xa, xc, rfl⟩ : ∃ a c, mv = .slice a l.length c := by
          rcases hrow.2 with ⟨rfl, hx⟩ | ⟨rb, cap, cur, rfl, _⟩
          · exact ⟨none, 0, by rw [hx]⟩
          · exact ⟨_, _, rfl⟩
        have hM : Hid (∀ W, Keeps nobody wr W → Calls Try.prog 50 #[.int .i64 (j : Int), .int .i64 0, .int .i64 (l.length : Int)] W fun e w' => ∃ a n c, e = .returned (.slice a n c) ∧ Hid (w'.ownsRow 0 3 1 (.slice a n c) l.length (icells l)) ∧ Keeps nobody wr w') := fun W hW => (mark_ok j 0 l.length W (by omega) (by omega) hll).mono fun _ _ ⟨v, he, hr, hk⟩ => by
          obtain ⟨a, n, c, rfl⟩ := row_slice hr
          refine ⟨a, n, c, he, ?_, hW.then hk⟩
          rw [← hma] at hr
          refine ⟨hr.1, ?_⟩
          rcases hr.2 with hx | ⟨g, cap, cur, hx, _, hrest⟩
          · exact .inl hx
          · exact .inr ⟨g, cap, cur, hx, Nat.zero_le _, hrest⟩
        have hS : Hid (∀ W a n c, Keeps nobody wr W → Hid (W.ownsRow 0 3 1 (.slice a n c) l.length (icells l)) → Calls Try.prog 16 #[.slice xa l.length xc, .slice a n c] W fun e w' => e = .returned (.bool true) ∧ Keeps nobody wr w') := fun W a n c hW hR =>
          (same_ok ((hK.then hW).row hrow fun _ _ => id) hR.out (by omega)).mono fun _ _ ⟨he, hk⟩ => ⟨he, hW.then hk⟩
        have HD : Hid (∀ W, Keeps nobody wr W → W.cell? ⟨rf, j, none⟩ = some (.slice xa l.length xc)) := fun W hW =>
          (hW.cell (p := ⟨rf, j, none⟩) (Nat.lt_of_lt_of_le hrf hK.size) id).trans q1
        have HK := hid hk
        have HKK := hid hK
        clear hk hK hrow HB Hl hma
        generalize ps.length = n at *
        go_wp2_with fail
        go_cut [22] (fun x wx => x = .bool false ∧ Keeps nobody wr wx)
        case first =>
          go_region_held3 (fun w' => w'.cell? ⟨rf, j, none⟩ = some (.slice xa l.length xc)) (first | go_keep | exact HD.out _ (by assumption)) ((first | (go_at_call 50; refine Calls.mono (hM.out _ (by first | assumption | exact (Keeps.refl _ _).drew)) ?_; rintro e wq ⟨ma, mn, mc, rfl, HV, kq⟩) | (go_at_call 16; refine Calls.mono (hS.out _ _ _ _ (by assumption) (by assumption)) ?_; rintro e wq ⟨rfl, kq⟩)))
          all_goals
            go_wp2_with fail
            go_meet
            exact ⟨rfl, by assumption⟩
        case rest =>
          obtain ⟨rfl, hKc⟩ := hcut
          clear HD hS hM q1
          go_wp2
          have hk := HK.out
          have hK := HKK.out
          go_roundg (gk - 1)
          case measure => omega
          case rel => exact ⟨j + 1, by simp, by omega, hK.then hKc⟩
      · clear HB Hl
        go_wp2
        go_ret
        exact ⟨rfl, hK⟩
end Go.Proofs.Ytkodpoijdaoihaa
