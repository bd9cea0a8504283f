/-
  The law StreamRuns as a walk.
-/
import Derived.Test.YtblhgifmdcghoaaDoorISidesW
import Derived.Deep.DeepCutAuto
namespace Go.Proofs.YtblhgifmdcghoaaDoor
open Go.RowKit

/-- What a stream's state tells of who has ended, of whether it was broken off. -/
def runB (s : Int) (m t r : Bool) : Bool :=
  (s == 0 && !m && !t && !r) || (s == 1 && !m && !t && !r) || (s == 2 && m && !t && !r) || (s == 3 && !m && t && !r) || (s == 4 && (r || (m && t)))
theorem run_ways {s : Int} {m t r : Bool} (h : runB s m t r = true) : (s = 0 ∧ m = false ∧ t = false ∧ r = false) ∨ (s = 1 ∧ m = false ∧ t = false ∧ r = false) ∨ (s = 2 ∧ m = true ∧ t = false ∧ r = false) ∨ (s = 3 ∧ m = false ∧ t = true ∧ r = false) ∨ (s = 4 ∧ (r = true ∨ (r = false ∧ m = true ∧ t = true))) := by
  have hs : s = 0 ∨ s = 1 ∨ s = 2 ∨ s = 3 ∨ s = 4 := by
    simp [runB] at h
    omega
  rcases hs with rfl | rfl | rfl | rfl | rfl <;> cases m <;> cases t <;> cases r <;> revert h <;> decide +kernel
theorem run_sent {s k : Int} {m t r : Bool} (en : Bool) (h : runB s m t r = true) (hk : moveB k = true) :
    (∃ e, sentA s k en = (s, e) ∧ (e == 0) = false) ∨
    (∃ s', sentA s k en = (s', 0) ∧ (((k = 0 ∨ k = 1) ∧ m = false ∧ r = false ∧ runB s' en t false = true) ∨ (k = 3 ∧ runB s' m t true = true) ∨ ((k = 8 ∨ k = 2) ∧ runB s' m t r = true))) := by
  have key : ∀ p : Int × Int, ((p.2 != 0 && p.1 == s) || (p.2 == 0 && (((k == 0 || k == 1) && !m && !r && runB p.1 en t false) || (k == 3 && runB p.1 m t true) || ((k == 8 || k == 2) && runB p.1 m t r)))) = true →
      (∃ e, p = (s, e) ∧ (e == 0) = false) ∨ (∃ s', p = (s', 0) ∧ (((k = 0 ∨ k = 1) ∧ m = false ∧ r = false ∧ runB s' en t false = true) ∨ (k = 3 ∧ runB s' m t true = true) ∨ ((k = 8 ∨ k = 2) ∧ runB s' m t r = true))) := by
    rintro ⟨p1, p2⟩ h
    simp only [Bool.or_eq_true, Bool.and_eq_true, beq_iff_eq, Bool.not_eq_true', bne_iff_ne, ne_eq] at h
    rcases h with ⟨h1, h2⟩ | ⟨h1, h2⟩
    · left; exact ⟨p2, by rw [h2], by simpa using h1⟩
    · right
      refine ⟨p1, by rw [h1], ?_⟩
      rcases h2 with (⟨⟨⟨h2, h3⟩, h4⟩, h5⟩ | ⟨h2, h3⟩) | ⟨h2, h3⟩
      · exact .inl ⟨h2, h3, h4, h5⟩
      · exact .inr (.inl ⟨h2, h3⟩)
      · exact .inr (.inr ⟨h2, h3⟩)
  apply key
  rcases run_ways h with ⟨rfl, rfl, rfl, rfl⟩ | ⟨rfl, rfl, rfl, rfl⟩ | ⟨rfl, rfl, rfl, rfl⟩ | ⟨rfl, rfl, rfl, rfl⟩ | ⟨rfl, rfl | ⟨rfl, rfl, rfl⟩⟩
  all_goals rcases moves_five hk with rfl | rfl | rfl | rfl | rfl <;> cases en <;> (try cases m) <;> (try cases t) <;> decide +kernel
theorem run_got {s k : Int} {m t r : Bool} (en : Bool) (h : runB s m t r = true) (hk : moveB k = true) :
    (∃ e, gotA s k en = (s, e) ∧ (e == 0) = false) ∨ (s = 0 ∧ gotA s k en = (s, 0)) ∨
    (∃ s', (s != 0) = true ∧ gotA s k en = (s', 0) ∧ (((k = 0 ∨ k = 1) ∧ t = false ∧ r = false ∧ runB s' m en false = true) ∨ (k = 3 ∧ runB s' m t true = true) ∨ ((k = 8 ∨ k = 2) ∧ runB s' m t r = true))) := by
  have key : ∀ p : Int × Int, ((p.2 != 0 && p.1 == s) || (s == 0 && p == (s, 0)) || (s != 0 && p.2 == 0 && (((k == 0 || k == 1) && !t && !r && runB p.1 m en false) || (k == 3 && runB p.1 m t true) || ((k == 8 || k == 2) && runB p.1 m t r)))) = true →
      (∃ e, p = (s, e) ∧ (e == 0) = false) ∨ (s = 0 ∧ p = (s, 0)) ∨ (∃ s', (s != 0) = true ∧ p = (s', 0) ∧ (((k = 0 ∨ k = 1) ∧ t = false ∧ r = false ∧ runB s' m en false = true) ∨ (k = 3 ∧ runB s' m t true = true) ∨ ((k = 8 ∨ k = 2) ∧ runB s' m t r = true))) := by
    rintro ⟨p1, p2⟩ h
    simp only [Bool.or_eq_true, Bool.and_eq_true, beq_iff_eq, Bool.not_eq_true', bne_iff_ne, ne_eq] at h
    rcases h with (⟨h1, h2⟩ | ⟨h1, h2⟩) | ⟨⟨h0, h1⟩, h2⟩
    · left; exact ⟨p2, by rw [h2], by simpa using h1⟩
    · right; left; exact ⟨h1, h2⟩
    · right; right
      refine ⟨p1, by simpa using h0, by rw [h1], ?_⟩
      rcases h2 with (⟨⟨⟨h2, h3⟩, h4⟩, h5⟩ | ⟨h2, h3⟩) | ⟨h2, h3⟩
      · exact .inl ⟨h2, h3, h4, h5⟩
      · exact .inr (.inl ⟨h2, h3⟩)
      · exact .inr (.inr ⟨h2, h3⟩)
  apply key
  rcases run_ways h with ⟨rfl, rfl, rfl, rfl⟩ | ⟨rfl, rfl, rfl, rfl⟩ | ⟨rfl, rfl, rfl, rfl⟩ | ⟨rfl, rfl, rfl, rfl⟩ | ⟨rfl, rfl | ⟨rfl, rfl, rfl⟩⟩
  all_goals rcases moves_five hk with rfl | rfl | rfl | rfl | rfl <;> cases en <;> (try cases m) <;> (try cases t) <;> decide +kernel
attribute [local irreducible] runB

set_option maxRecDepth 100000 in
theorem runs_off (a : Option Addr) (n cap : Nat) (W : World) (hE : Env W) (h : 200 < n) (hn : n ≤ 140737488355328) : Calls Tryd.prog 4 #[.slice a n cap] W (Fine W) := by
  have HA : Alv W := alive_ok W hE
  clear hE
  go_enter Tryd.func4, Tryd.ntmps4
  go_wp2_with fail
  refine Calls.mono (HA.out) ?_
  rintro e w1 ⟨rfl, rfl⟩
  go_wp2
  go_ret
  exact ⟨rfl, Below.refl _ _⟩

set_option maxRecDepth 100000 in
set_option maxHeartbeats 8000000 in
theorem runs_main (p : Option Addr) (bl off cap : Nat) (l : List Int) (W : World) (hE : Env W) (hn : l.length ≤ 200) (ha : Hid (l = [] ∨ p = some ⟨bl, off, none⟩)) (HC : Hid (∀ w, Below W.heap.size W w → AtI w bl off l)) : Calls Tryd.prog 4 #[.slice p l.length cap] W (Fine W) := by
  have HA : Alv W := alive_ok W hE
  have HW : Hid (∀ s w, Calls Tryd.prog 15 #[.int .i64 s] w fun e w' => e = .returned (.bool (writesB s)) ∧ w = w') := st_writes
  clear hE
  go_enter Tryd.func4, Tryd.ntmps4
  go_wp2_with fail
  refine Calls.mono (HA.out) ?_
  rintro e w1 ⟨rfl, rfl⟩
  clear HA
  go_wp2_with fail
  go_loopg [3, 4, 5, 6, 25] l.length (fun k sv mv tv rv iv wr => ∃ (j : Nat) (s : Int) (m t r : Bool), sv = .int .i64 s ∧ mv = .bool m ∧ tv = .bool t ∧ rv = .bool r ∧ iv = .int .i64 (j : Int) ∧ k + j = l.length ∧ Hid (runB s m t r = true ∧ Keeps nobody W wr))
  case atStart => exact ⟨0, 0, false, false, false, rfl, rfl, rfl, rfl, rfl, rfl, by decide +kernel, Keeps.refl _ _⟩
  case round =>
    obtain ⟨j, s, m, t, r, rfl, rfl, rfl, rfl, rfl, hk, HJ⟩ := hrel
    by_cases hj : j < l.length
    · obtain rfl : p = some ⟨bl, off, none⟩ := by
        rcases ha.out with h | h
        · rw [h] at hj; simp at hj
        · exact h
      obtain ⟨x, hx⟩ : ∃ f, l[j]? = some f := ⟨_, List.getElem?_eq_getElem hj⟩
      have c0 := HC.out _ (below_of_keeps HJ.out.2) j x hx
      obtain ⟨r5, q, hr, hq, r1, r2, q2⟩ := fifth x
      obtain ⟨k, hkq, hm⟩ := kind_of q2
      have hc := kind_cell q k hkq 3 wr
      have HK := hid hk
      generalize h8 : bits .and .i64 x 8 = P8 at *
      generalize h16 : bits .and .i64 x 16 = P16 at *
      have HM := hid hm
      obtain ⟨en, d8⟩ : ∃ en, (P8 != 0) = en := ⟨_, rfl⟩
      clear hk hx HC hkq hm
      go_upto_if 41 with fail
      go_cut [3, 4, 5, 6] (fun sv mv tv rv wx => ∃ (s' : Int) (m' t' r' : Bool), sv = .int .i64 s' ∧ mv = .bool m' ∧ tv = .bool t' ∧ rv = .bool r' ∧ Hid (runB s' m' t' r' = true ∧ Keeps nobody W wx))
      case first =>
        clear HW
        by_cases d16 : P16 = 0
        · subst d16
          rcases run_got en HJ.out.1 HM.out with ⟨er, e1, e2⟩ | ⟨rfl, e1⟩ | ⟨s', hs0, e1, hst⟩
          · have HG := gk_of e1
            clear e1
            go_wp2_with fail
            refine Calls.mono (HG.out _) ?_
            rintro e w2 ⟨rfl, k2⟩
            have K2 := (HJ.out.2.then (keeps_alloc _ _)).then k2
            clear k2
            go_wp2_with fail
            go_meet
            exact ⟨s, m, t, r, rfl, rfl, rfl, rfl, HJ.out.1, K2⟩
          · have HG := gk_of e1
            clear e1
            go_wp2_with fail
            refine Calls.mono (HG.out _) ?_
            rintro e w2 ⟨rfl, k2⟩
            have K2 := (HJ.out.2.then (keeps_alloc _ _)).then k2
            clear k2
            go_wp2_with fail
            go_meet
            exact ⟨0, m, t, r, rfl, rfl, rfl, rfl, HJ.out.1, K2⟩
          · have HG := gk_of e1
            clear e1
            rcases hst with ⟨hk01, rfl, rfl, hr'⟩ | ⟨rfl, hr'⟩ | ⟨hk82, hr'⟩
            · have HR := hid hr'
              clear hr'
              rcases hk01 with rfl | rfl <;> cases en
              all_goals
                as_aux_lemma =>
                  go_wp2_with fail
                  refine Calls.mono (HG.out _) ?_
                  rintro e w2 ⟨rfl, k2⟩
                  have K2 := (HJ.out.2.then (keeps_alloc _ _)).then k2
                  clear k2
                  go_wp2_with fail
                  go_meet
                  exact ⟨s', m, _, false, rfl, rfl, rfl, rfl, HR.out, K2⟩
            · have HR := hid hr'
              clear hr'
              cases r <;> (cases t; cases en)
              all_goals
                as_aux_lemma =>
                  go_wp2_with fail
                  refine Calls.mono (HG.out _) ?_
                  rintro e w2 ⟨rfl, k2⟩
                  have K2 := (HJ.out.2.then (keeps_alloc _ _)).then k2
                  clear k2
                  go_wp2_with fail
                  go_meet
                  exact ⟨s', _, _, true, rfl, rfl, rfl, rfl, HR.out, K2⟩
            · have HR := hid hr'
              clear hr'
              obtain ⟨g0, g1, g3⟩ : (k == 0) = false ∧ (k == 1) = false ∧ (k == 3) = false := by rcases hk82 with rfl | rfl <;> decide
              clear hk82
              cases r <;> (cases t; cases en)
              all_goals
                as_aux_lemma =>
                  go_wp2_with fail
                  refine Calls.mono (HG.out _) ?_
                  rintro e w2 ⟨rfl, k2⟩
                  have K2 := (HJ.out.2.then (keeps_alloc _ _)).then k2
                  clear k2
                  go_wp2_with fail
                  go_meet
                  exact ⟨s', _, _, _, rfl, rfl, rfl, rfl, HR.out, K2⟩
        · have d16' : (P16 != 0) = true := by simpa using d16
          clear d16
          rcases run_sent en HJ.out.1 HM.out with ⟨er, e1, e2⟩ | ⟨s', e1, hst⟩
          · have HS := sk_of e1
            clear e1
            go_wp2_with fail
            refine Calls.mono (HS.out _) ?_
            rintro e w2 ⟨rfl, k2⟩
            have K2 := (HJ.out.2.then (keeps_alloc _ _)).then k2
            clear k2
            go_wp2_with fail
            go_meet
            exact ⟨s, m, t, r, rfl, rfl, rfl, rfl, HJ.out.1, K2⟩
          · have HS := sk_of e1
            clear e1
            rcases hst with ⟨hk01, rfl, rfl, hr'⟩ | ⟨rfl, hr'⟩ | ⟨hk82, hr'⟩
            · have HR := hid hr'
              clear hr'
              rcases hk01 with rfl | rfl <;> cases en
              all_goals
                as_aux_lemma =>
                  go_wp2_with fail
                  refine Calls.mono (HS.out _) ?_
                  rintro e w2 ⟨rfl, k2⟩
                  have K2 := (HJ.out.2.then (keeps_alloc _ _)).then k2
                  clear k2
                  go_wp2_with fail
                  go_meet
                  exact ⟨s', _, t, false, rfl, rfl, rfl, rfl, HR.out, K2⟩
            · have HR := hid hr'
              clear hr'
              cases r <;> (cases m; cases en)
              all_goals
                as_aux_lemma =>
                  go_wp2_with fail
                  refine Calls.mono (HS.out _) ?_
                  rintro e w2 ⟨rfl, k2⟩
                  have K2 := (HJ.out.2.then (keeps_alloc _ _)).then k2
                  clear k2
                  go_wp2_with fail
                  go_meet
                  exact ⟨s', _, _, true, rfl, rfl, rfl, rfl, HR.out, K2⟩
            · have HR := hid hr'
              clear hr'
              obtain ⟨g0, g1, g3⟩ : (k == 0) = false ∧ (k == 1) = false ∧ (k == 3) = false := by rcases hk82 with rfl | rfl <;> decide
              clear hk82
              cases r <;> (cases m; cases en)
              all_goals
                as_aux_lemma =>
                  go_wp2_with fail
                  refine Calls.mono (HS.out _) ?_
                  rintro e w2 ⟨rfl, k2⟩
                  have K2 := (HJ.out.2.then (keeps_alloc _ _)).then k2
                  clear k2
                  go_wp2_with fail
                  go_meet
                  exact ⟨s', _, _, _, rfl, rfl, rfl, rfl, HR.out, K2⟩
      case rest =>
        clear HJ c0 hc hr hq HM h8 h16 d8
        obtain ⟨s', m', t', r', rfl, rfl, rfl, rfl, HX⟩ := hcut
        have hk := HK.out
        have KX := HX.out.2
        rcases run_ways HX.out.1 with ⟨rfl, rfl, rfl, rfl⟩ | ⟨rfl, rfl, rfl, rfl⟩ | ⟨rfl, rfl, rfl, rfl⟩ | ⟨rfl, rfl, rfl, rfl⟩ | ⟨rfl, rfl | ⟨rfl, rfl, rfl⟩⟩
        all_goals (try cases m') <;> (try cases t')
        all_goals
          go_wp2_with fail
          refine Calls.mono (HW.out _ _) ?_
          rintro e w2 ⟨rfl, rfl⟩
          go_wp2
          go_roundg (gk - 1)
          case measure => omega
          case rel => exact ⟨j + 1, _, _, _, _, rfl, rfl, rfl, rfl, by simp, by omega, HX.out.1, KX⟩
    · clear HC hk HW
      go_wp2
      go_ret
      exact ⟨rfl, below_of_keeps HJ.out.2⟩
theorem runs_true (p : Option Addr) (cap : Nat) (l : List Int) (W : World) (hE : Env W) (h : Ints W p l) : Calls Tryd.prog 4 #[.slice p l.length cap] W (Fine W) := by
  by_cases ho : 200 < l.length
  · exact runs_off p _ cap W hE ho h.2
  · obtain ⟨b, off, ha, hc⟩ := h.at
    exact runs_main p b off cap l W hE (by omega) ha hc
end Go.Proofs.YtblhgifmdcghoaaDoor
