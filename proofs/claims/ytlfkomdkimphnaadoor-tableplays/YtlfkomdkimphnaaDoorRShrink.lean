/-
  The reference's shrink.
-/
import Derived.Test.YtlfkomdkimphnaaDoorRMem
namespace Go.Proofs.YtlfkomdkimphnaaDoor
open Go.RowKit

theorem keep_dropLast (l : List Fld) : ∀ (room : Int), room < (sum l : Int) → keep room l = keep room l.dropLast := by
  induction l with
  | nil => intro room _; rfl
  | cons f l ih =>
    intro room h
    simp only [sum] at h
    cases l with
    | nil =>
      simp only [sum] at h
      have : keep room [f] = [] := by unfold keep; rw [if_pos (by omega)]
      rw [this]; rfl
    | cons g m =>
      have e1 : (f :: g :: m).dropLast = f :: (g :: m).dropLast := rfl
      rw [e1]
      unfold keep
      split
      · rfl
      · rw [ih _ (by omega)]
/-- The list without its last one: the same row. -/
theorem row_less {w : World} {base rb cap : Nat} {l : List Fld} (h : w.ownsRow base 28 2 (.slice (some ⟨rb, 0, none⟩) l.length cap) l.length (fcells l)) (hl : 0 < l.length) : w.ownsRow base 28 2 (.slice (some ⟨rb, 0, none⟩) (l.length - 1) cap) l.dropLast.length (fcells l.dropLast) := by
  have hd : l.dropLast = l.take (l.length - 1) := List.dropLast_eq_take
  have hdl : l.dropLast.length = l.length - 1 := List.length_dropLast
  rcases h.2 with ⟨hx, _⟩ | ⟨rb', cap', cur, hx, hb, hg, hnc, hcm, hcs, ht⟩
  · cases hx
  simp only [Value.slice.injEq, Option.some.injEq, Addr.mk.injEq, and_true, true_and] at hx
  obtain ⟨rfl, rfl⟩ := hx
  refine ⟨fcells_length _, .inr ⟨rb, cap, cur, by rw [hdl], hb, hg, by omega, hcm, hcs, ?_⟩⟩
  rw [hdl, hd, ← fcells_take, ← ht, List.take_take]
  congr 1
  omega

set_option maxRecDepth 100000 in
set_option maxHeartbeats 2000000 in
theorem rshrink_ok {w : World} {g : Nat} {v : Value} {size : Nat} {l : List Fld} (h : RTab w g v size l) (n : Nat) (hn : n ≤ 3000) : Calls Tryd.prog 33 #[.pointer (some ⟨g, 0, none⟩), .int .i64 (n : Int)] w fun e w' => e = .returned (.tuple #[]) ∧ RActed g v size (keep ((size : Int) - n) l) w w' := by
  have hm := h.most
  generalize hkp : keep ((size : Int) - n) l = L
  have HL := hid hkp
  have HT : Hid (∀ k, tfoot g v k → tfoot g v k ∨ w.heap.size ≤ k) := fun k hk => .inl hk
  have H := hid h
  have hl16 := h.length
  clear hkp h
  go_enter Tryd.func33, Tryd.ntmps33
  go_wp2
  go_loopg [] l.length (fun k wr => ∃ (m : List Fld) (u : Value), k = m.length ∧ Hid (RTab wr g u size m ∧ Keeps (tfoot g v) w wr ∧ (∀ k, tfoot g u k → tfoot g v k ∨ w.heap.size ≤ k) ∧ keep ((size : Int) - n) m = L))
  case atStart => exact ⟨l, v, rfl, H.out, Keeps.refl _ _, HT.out, HL.out⟩
  case round =>
    obtain ⟨m, u, hk, G⟩ := hrel
    clear H HL HT
    obtain ⟨c0, c1, c2⟩ := G.out.1.cells
    have hlt := G.out.1.lt
    have hfit := G.out.1.fits
    have hml := G.out.1.length
    by_cases h0 : m.length = 0
    · obtain rfl : m = [] := List.eq_nil_of_length_eq_zero h0
      obtain ⟨a1, cc1, rfl⟩ : ∃ a c, u = .slice a 0 c := by
        rcases G.out.1.row.2 with ⟨rfl, _⟩ | ⟨rb, cap, cur, rfl, _⟩ <;> exact ⟨_, _, rfl⟩
      have HN : Hid (RActed g v size L w wr.drew) := by
        have hL := G.out.2.2.2
        have e : keep ((size : Int) - n) [] = [] := rfl
        rw [e] at hL
        subst hL
        have T1 := G.out.1
        exact ⟨_, ⟨T1.blk, T1.row, T1.fits, T1.most⟩, G.out.2.1.drew, G.out.2.2.1⟩
      clear G hk
      go_wp2
      go_region
      all_goals
        go_wp2
        exact bodyPost_end (v := .tuple #[]) (by simp [results, Tryd.results33, go_sem]) rfl ⟨rfl, HN.out⟩
    · rcases G.out.1.row.2 with ⟨_, hx⟩ | ⟨rb, cap, cur, rfl, _, _, hnc, hcm, _⟩
      · exact absurd hx h0
      have hS : Hid (∀ W, Keeps nobody wr W → Calls Tryd.prog 23 #[.slice (some ⟨rb, 0, none⟩) m.length cap] W fun e w' => e = .returned (.int .i64 (sum m : Int)) ∧ Keeps nobody wr w') := fun W hW =>
        (rsum_ok (G.out.1.quiet hW).row (by omega)).mono fun _ _ ⟨he, hk⟩ => ⟨he, hW.then hk⟩
      have HD : Hid (∀ W, Keeps nobody wr W → W.cell? ⟨g, 0, none⟩ = some (.int .i64 (size : Int)) ∧ W.cell? ⟨g, 1, none⟩ = some (.slice (some ⟨rb, 0, none⟩) m.length cap)) := fun W hW =>
        ⟨(hW.cell (p := ⟨g, 0, none⟩) hlt id).trans c0, (hW.cell (p := ⟨g, 1, none⟩) hlt id).trans c1⟩
      unfold maxLen at hcm
      have hq0 : 0 < m.length := by omega
      by_cases hbig : size < sum m + n
      · have q1 : (size : Int) < (sum m : Int) + (n : Int) := by omega
        go_wp2_with fail
        go_cut [23] (fun x wx => x = .bool true ∧ Keeps nobody wr wx)
        case first =>
          clear G hk
          go_region_held3 (fun w' => w'.cell? ⟨g, 0, none⟩ = some (.int .i64 (size : Int)) ∧ w'.cell? ⟨g, 1, none⟩ = some (.slice (some ⟨rb, 0, none⟩) m.length cap)) (first | go_keep | exact HD.out _ (by assumption)) ((first | (go_at_call 23; refine Calls.mono (hS.out _ (by first | assumption | exact (Keeps.refl _ _).drew)) ?_; rintro e wq ⟨rfl, kq⟩)))
          all_goals
            go_wp2_with fail
            go_meet
            exact ⟨by rw [wrap_fit _ (by omega) (by omega), decide_eq_true q1], by assumption⟩
        case rest =>
          obtain ⟨rfl, hKc⟩ := hcut
          obtain ⟨d0, d1⟩ := HD.out _ hKc
          have d2 : ∀ o, wc.frozen? ⟨g, o, none⟩ = false := fun o => (hKc.frozen (p := ⟨g, o, none⟩) hlt id).trans (c2 o)
          have T1 := G.out.1.quiet hKc
          have hp : (m.length : Int) - 1 = ((m.length - 1 : Nat) : Int) := by omega
          have hpc : m.length - 1 ≤ cap := by omega
          have HN : Hid (RTab (wc.drew.setCell ⟨g, 1, none⟩ (.slice (some ⟨rb, 0, none⟩) (m.length - 1) cap)) g (.slice (some ⟨rb, 0, none⟩) (m.length - 1) cap) size m.dropLast ∧ Keeps (tfoot g v) w (wc.drew.setCell ⟨g, 1, none⟩ (.slice (some ⟨rb, 0, none⟩) (m.length - 1) cap)) ∧ (∀ k, tfoot g (.slice (some ⟨rb, 0, none⟩) (m.length - 1) cap) k → tfoot g v k ∨ w.heap.size ≤ k) ∧ keep ((size : Int) - n) m.dropLast = L ∧ gk = m.length ∧ m.dropLast.length = m.length - 1) := by
            have hT2 : RTab wc.drew g (.slice (some ⟨rb, 0, none⟩) m.length cap) size m := ⟨T1.blk, T1.row, T1.fits, T1.most⟩
            refine ⟨hT2.relay (World.grownBy.refl _ _) (row_less hT2.row hq0) ?_ (fun k hk => .inl hk), ?_, fun k hk => G.out.2.2.1 k hk, ?_, hk, List.length_dropLast⟩
            · have := sum_take m (m.length - 1)
              rw [← List.dropLast_eq_take] at this
              omega
            · exact ((G.out.2.1.then hKc).drew).setCell (.inl (.inl rfl)) _
            · rw [← keep_dropLast m _ (by omega)]; exact G.out.2.2.2
          clear G HD hS T1 hk c0 c1 c2 hKc
          go_wp2
          go_region
          all_goals
            go_wp2
            obtain ⟨n1, n2, n3, n4, n5, n6⟩ := HN.out
            go_roundg (m.length - 1)
            case measure => omega
            case rel => exact ⟨m.dropLast, _, n6.symm, n1, n2, n3, n4⟩
      · have q1 : ¬ (size : Int) < (sum m : Int) + (n : Int) := by omega
        have hend : keep ((size : Int) - n) m = m := keep_all m _ (by omega)
        go_wp2_with fail
        go_cut [23] (fun x wx => x = .bool false ∧ Keeps nobody wr wx)
        case first =>
          clear G hk hend
          go_region_held3 (fun w' => w'.cell? ⟨g, 0, none⟩ = some (.int .i64 (size : Int)) ∧ w'.cell? ⟨g, 1, none⟩ = some (.slice (some ⟨rb, 0, none⟩) m.length cap)) (first | go_keep | exact HD.out _ (by assumption)) ((first | (go_at_call 23; refine Calls.mono (hS.out _ (by first | assumption | exact (Keeps.refl _ _).drew)) ?_; rintro e wq ⟨rfl, kq⟩)))
          all_goals
            go_wp2_with fail
            go_meet
            exact ⟨by rw [wrap_fit _ (by omega) (by omega), decide_eq_false (by omega)], by assumption⟩
        case rest =>
          obtain ⟨rfl, hKc⟩ := hcut
          have HN : Hid (RActed g v size L w wc) := by
            have := G.out.2.2.2
            rw [hend] at this
            subst this
            exact ⟨_, G.out.1.quiet hKc, G.out.2.1.then hKc, G.out.2.2.1⟩
          clear G HD hS hk c0 c1 c2 hKc hend
          go_wp2
          exact bodyPost_end (v := .tuple #[]) (by simp [results, Tryd.results33, go_sem]) rfl ⟨rfl, HN.out⟩
end Go.Proofs.YtlfkomdkimphnaaDoor
