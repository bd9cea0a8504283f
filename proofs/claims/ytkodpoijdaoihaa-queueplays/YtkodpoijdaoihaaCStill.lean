/-
  bywashbook: stillInts.
-/
import Derived.Test.YtkodpoijdaoihaaCInts
import Derived.Test.YtkodpoijdaoihaaCSame
namespace Go.Proofs.Ytkodpoijdaoihaa
open Go.RowKit

theorem list_cell {w : World} {n cap rb : Nat} {ps : List PL} (h : Lists w (.slice (some ⟨rb, 0, none⟩) n cap) ps) (i : Nat) (hi : i < ps.length) : w.cell? ⟨rb, i, none⟩ = some (ps[i]'hi).1 := by
  have hg : (vals ps)[i]? = some (ps[i]'hi).1 := by simp [vals, hi]
  have h0 := h.outer.cells (g := rb) rfl i _ hg
  rw [Addr.add_mid] at h0
  simpa using h0

set_option maxRecDepth 100000 in
set_option maxHeartbeats 2000000 in
theorem stillInts_ok {w : World} {kb : Nat} {fv wv : Value} {fs ws : List PL} (h : Bk w kb fv wv fs ws) (hsame : fs.map Prod.snd = ws.map Prod.snd) (hn : fs.length ≤ 250) (hl : ∀ p ∈ fs, p.2.length ≤ 1000) :
    Calls Try.prog 24 #[.pointer (some ⟨kb, 0, none⟩)] w fun e w' => e = .returned (.bool true) ∧ Keeps nobody w w' := by
  have hlen : ws.length = fs.length := by have := congrArg List.length hsame; simp at this; omega
  obtain ⟨c4, c5, cf⟩ := h.cells
  have hlt := h.lt
  by_cases h0 : fs.length = 0
  · have hfn : ∃ a c, fv = .slice a 0 c := by
      rcases h.f.outer.2 with ⟨rfl, hx⟩ | ⟨rb, cap, cur, rfl, _⟩
      · exact ⟨none, 0, rfl⟩
      · rw [h0]; exact ⟨_, _, rfl⟩
    obtain ⟨fa, fc, rfl⟩ := hfn
    clear h hsame hlen h0 hn hl
    go_enter Try.func24, Try.ntmps24
    go_wp2
    go_loopg [3] 0 (fun k i wr => i = .int .i64 0 ∧ wr = w)
    case atStart => exact ⟨rfl, rfl⟩
    case round =>
      obtain ⟨rfl, rfl⟩ := hrel
      go_wp2
      go_ret
      exact ⟨rfl, Keeps.refl _ _⟩
  · have hpos : 0 < fs.length := by omega
    rcases h.f.outer.2 with ⟨_, hx⟩ | ⟨rf, cf1, curf, rfl, _, _, hnf, hcf, _⟩
    · exact absurd hx h0
    rcases h.s.outer.2 with ⟨_, hx⟩ | ⟨rw0, cw1, curw, rfl, _, _, hnw, hcw, _⟩
    · omega
    have hrf := (h.f.outer.lt rf rfl).2
    have hrw := (h.s.outer.lt rw0 rfl).2
    unfold maxLen at hcf hcw
    rw [hlen] at c5 hnw
    have HB : Hid (Bk w kb (.slice (some ⟨rf, 0, none⟩) fs.length cf1) (.slice (some ⟨rw0, 0, none⟩) ws.length cw1) fs ws) := h
    have HS := hid hsame
    have HL := hid hlen
    have Hl := hid hl
    clear h hsame hlen hl h0
    go_enter Try.func24, Try.ntmps24
    go_wp2
    go_loopg [3] fs.length (fun k i wr => ∃ j : Nat, i = .int .i64 j ∧ k + j = fs.length ∧ Keeps nobody w wr)
    case atStart => exact ⟨0, rfl, rfl, Keeps.refl _ _⟩
    case round =>
      obtain ⟨j, rfl, hk, hK⟩ := hrel
      have b4 : wr.cell? ⟨kb, 0, none⟩ = some (.slice (some ⟨rf, 0, none⟩) fs.length cf1) := (hK.cell (p := ⟨kb, 0, none⟩) hlt id).trans c4
      have b5 : wr.cell? ⟨kb, 1, none⟩ = some (.slice (some ⟨rw0, 0, none⟩) fs.length cw1) := (hK.cell (p := ⟨kb, 1, none⟩) hlt id).trans c5
      by_cases hj : j < fs.length
      · have hj2 : j < ws.length := by rw [HL.out]; exact hj
        have q1 : wr.cell? ⟨rf, j, none⟩ = some (fs[j]'hj).1 := (hK.cell (p := ⟨rf, j, none⟩) hrf id).trans (list_cell HB.out.f j hj)
        have q2 : wr.cell? ⟨rw0, j, none⟩ = some (ws[j]'hj2).1 := (hK.cell (p := ⟨rw0, j, none⟩) hrw id).trans (list_cell HB.out.s j hj2)
        have hrowF := HB.out.f.rows _ (List.getElem_mem hj)
        have hrowS := HB.out.s.rows _ (List.getElem_mem hj2)
        have hsm : (ws[j]'hj2).2 = (fs[j]'hj).2 := by
          have := congrArg (fun t => t[j]?) HS.out
          simp [hj, hj2] at this
          exact this.symm
        rw [hsm] at hrowS
        have hll := Hl.out _ (List.getElem_mem hj)
        have hS : Hid (∀ W, Keeps nobody wr W → Calls Try.prog 16 #[(fs[j]'hj).1, (ws[j]'hj2).1] W fun e w' => e = .returned (.bool true) ∧ Keeps nobody wr w') := fun W hW =>
          (same_ok ((hK.then hW).row hrowF fun _ _ => id) ((hK.then hW).row hrowS fun _ _ => id) (by omega)).mono fun _ _ ⟨he, hk⟩ => ⟨he, hW.then hk⟩
        obtain ⟨xa, xn, xc, hx⟩ := row_slice hrowF
        obtain ⟨ya, yn, yc, hy⟩ := row_slice hrowS
        rw [hx] at hS q1
        rw [hy] at hS q2
        have HD : Hid (∀ W, Keeps nobody wr W → W.cell? ⟨kb, 0, none⟩ = some (.slice (some ⟨rf, 0, none⟩) fs.length cf1) ∧ W.cell? ⟨kb, 1, none⟩ = some (.slice (some ⟨rw0, 0, none⟩) fs.length cw1) ∧ W.cell? ⟨rf, j, none⟩ = some (.slice xa xn xc) ∧ W.cell? ⟨rw0, j, none⟩ = some (.slice ya yn yc)) := fun W hW =>
          ⟨(hW.cell (p := ⟨kb, 0, none⟩) (Nat.lt_of_lt_of_le hlt hK.size) id).trans b4, (hW.cell (p := ⟨kb, 1, none⟩) (Nat.lt_of_lt_of_le hlt hK.size) id).trans b5, (hW.cell (p := ⟨rf, j, none⟩) (Nat.lt_of_lt_of_le hrf hK.size) id).trans q1, (hW.cell (p := ⟨rw0, j, none⟩) (Nat.lt_of_lt_of_le hrw hK.size) id).trans q2⟩
        have HK := hid hk
        have HKK := hid hK
        clear hk hK hsm hrowF hrowS hx hy hll HB HS HL Hl c4 c5 cf hj2
        generalize fs.length = n at *
        go_wp2_with fail
        go_cut [28] (fun x wx => x = .bool false ∧ Keeps nobody wr wx)
        case first =>
          go_region_held3 (fun w' => w'.cell? ⟨kb, 0, none⟩ = some (.slice (some ⟨rf, 0, none⟩) n cf1) ∧ w'.cell? ⟨kb, 1, none⟩ = some (.slice (some ⟨rw0, 0, none⟩) n cw1) ∧ w'.cell? ⟨rf, j, none⟩ = some (.slice xa xn xc) ∧ w'.cell? ⟨rw0, j, none⟩ = some (.slice ya yn yc)) (first | go_keep | exact HD.out _ (by assumption)) ((first | (go_at_call 16; refine Calls.mono (hS.out _ (by first | assumption | exact (Keeps.refl _ _).drew)) ?_; rintro e wq ⟨rfl, kq⟩)))
          all_goals
            go_wp2_with fail
            go_meet
            exact ⟨rfl, by assumption⟩
        case rest =>
          obtain ⟨rfl, hKc⟩ := hcut
          clear HD hS b4 b5 q1 q2
          go_wp2
          have hk := HK.out
          have hK := HKK.out
          go_roundg (gk - 1)
          case measure => omega
          case rel => exact ⟨j + 1, by simp, by omega, hK.then hKc⟩
      · clear HB HS HL Hl
        go_wp2
        go_ret
        exact ⟨rfl, hK⟩
end Go.Proofs.Ytkodpoijdaoihaa
