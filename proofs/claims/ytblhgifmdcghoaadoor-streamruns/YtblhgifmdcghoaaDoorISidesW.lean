/-
  The law StreamSides as a walk.
-/
import Derived.Test.YtblhgifmdcghoaaDoorISidesS
namespace Go.Proofs.YtblhgifmdcghoaaDoor
open Go.RowKit

set_option maxRecDepth 100000 in
theorem sides_off (a : Option Addr) (n cap : Nat) (W : World) (hE : Env W) (h : 100 < n) (hn : n ≤ 140737488355328) : Calls Tryd.prog 5 #[.slice a n cap] W (Fine W) := by
  have HA : Alv W := alive_ok W hE
  clear hE
  go_enter Tryd.func5, Tryd.ntmps5
  go_wp2_with fail
  refine Calls.mono (HA.out) ?_
  rintro e w1 ⟨rfl, rfl⟩
  go_wp2
  go_ret
  exact ⟨rfl, Below.refl _ _⟩

abbrev SkC (s k : Int) (en : Bool) (a e : Int) : Prop := Hid (∀ w, Calls Tryd.prog 10 #[.int .i64 s, .int .i64 k, .bool en] w fun x w' => x = .returned (.tuple #[.int .i64 a, .int .i64 e]) ∧ Keeps nobody w w')
abbrev GkC (s k : Int) (en : Bool) (a e : Int) : Prop := Hid (∀ w, Calls Tryd.prog 12 #[.int .i64 s, .int .i64 k, .bool en] w fun x w' => x = .returned (.tuple #[.int .i64 a, .int .i64 e]) ∧ Keeps nobody w w')
theorem sk_of {s k : Int} {en : Bool} {a e : Int} (h : sentA s k en = (a, e)) : SkC s k en a e := fun w => Calls.mono (sent_ok s k en w) (by rintro x w' ⟨rfl, rfl⟩; rw [h]; exact ⟨rfl, Keeps.refl _ _⟩)
theorem gk_of {s k : Int} {en : Bool} {a e : Int} (h : gotA s k en = (a, e)) : GkC s k en a e := fun w => Calls.mono (got_ok s k en w) (by rintro x w' ⟨rfl, rfl⟩; rw [h]; exact ⟨rfl, Keeps.refl _ _⟩)

set_option maxRecDepth 100000 in
set_option maxHeartbeats 4000000 in
theorem sides_main (p : Option Addr) (bl off cap : Nat) (l : List Int) (W : World) (hE : Env W) (hn : l.length ≤ 100) (ha : Hid (l = [] ∨ p = some ⟨bl, off, none⟩)) (HC : Hid (∀ w, Below W.heap.size W w → AtI w bl off l)) : Calls Tryd.prog 5 #[.slice p l.length cap] W (Fine W) := by
  have HA : Alv W := alive_ok W hE
  clear hE
  go_enter Tryd.func5, Tryd.ntmps5
  go_wp2_with fail
  refine Calls.mono (HA.out) ?_
  rintro e w1 ⟨rfl, rfl⟩
  clear HA
  go_wp2_with fail
  go_loopg [3, 4, 25] l.length (fun k av bv iv wr => ∃ (j : Nat) (a b : Int), av = .int .i64 a ∧ bv = .int .i64 b ∧ iv = .int .i64 (j : Int) ∧ k + j = l.length ∧ Hid (handB a b = true ∧ Keeps nobody W wr ∧ TurnAt W.heap.size wr))
  case atStart => exact ⟨0, 1, 1, rfl, rfl, rfl, rfl, rfl, keeps_alloc _ _, turn_new _ _⟩
  case round =>
    obtain ⟨j, a, b, rfl, rfl, rfl, hk, HJ⟩ := hrel
    by_cases hj : j < l.length
    · obtain rfl : p = some ⟨bl, off, none⟩ := by
        rcases ha.out with h | h
        · rw [h] at hj; simp at hj
        · exact h
      obtain ⟨x, hx⟩ : ∃ f, l[j]? = some f := ⟨_, List.getElem?_eq_getElem hj⟩
      have c0 := HC.out _ (below_of_keeps HJ.out.2.1) j x hx
      obtain ⟨r, q, hr, hq, r1, r2, q2⟩ := fifth x
      obtain ⟨k, hkq, hm⟩ := kind_of q2
      have hc := kind_cell q k hkq 3 wr
      have HK := hid hk
      generalize h8 : bits .and .i64 x 8 = P8 at *
      generalize h16 : bits .and .i64 x 16 = P16 at *
      have HM := hid hm
      clear hk hx HC hkq hm
      obtain ⟨en, d8⟩ : ∃ en, (P8 != 0) = en := ⟨_, rfl⟩
      by_cases d16 : P16 = 0
      · subst d16
        rcases hand_step en HJ.out.1 HM.out with ⟨er, e1, e2⟩ | ⟨s, t, e1, e2, hst⟩
        · have HS := sk_of e1
          clear e1
          go_wp2_with fail
          refine Calls.mono (HS.out _) ?_
          rintro e w2 ⟨rfl, k2⟩
          have K2 := k2
          go_wp2
          have hk := HK.out
          go_roundg (gk - 1)
          case measure => omega
          case rel => exact ⟨j + 1, _, _, rfl, rfl, by simp, by omega, HJ.out.1, (HJ.out.2.1.then (keeps_alloc _ _)).then K2, HJ.out.2.2.quiet ((keeps_alloc _ _).then K2)⟩
        · have HS := sk_of e1
          have HG := gk_of e2
          clear e1 e2
          rcases hst with ⟨rfl, rfl⟩ | ⟨rfl, rfl⟩ | ⟨rfl, rfl⟩ | ⟨rfl, rfl⟩
          · go_wp2_with fail
            refine Calls.mono (HS.out _) ?_
            rintro e w2 ⟨rfl, k2⟩
            go_wp2_with fail
            refine Calls.mono (HG.out _) ?_
            rintro e w3 ⟨rfl, k3⟩
            have K2 := k2.then k3
            have T2 := (HJ.out.2.2.quiet ((keeps_alloc wr _).then K2)).2 1 _ rfl
            clear k2 k3
            go_wp2
            have hk := HK.out
            go_roundg (gk - 1)
            case measure => omega
            case rel => exact ⟨j + 1, _, _, rfl, rfl, by simp, by omega, rfl, (HJ.out.2.1.then (keeps_alloc _ _)).then K2, HJ.out.2.2.quiet ((keeps_alloc _ _).then K2)⟩
          · go_wp2_with fail
            refine Calls.mono (HS.out _) ?_
            rintro e w2 ⟨rfl, k2⟩
            go_wp2_with fail
            refine Calls.mono (HG.out _) ?_
            rintro e w3 ⟨rfl, k3⟩
            have K2 := k2.then k3
            have T2 := (HJ.out.2.2.quiet ((keeps_alloc wr _).then K2)).2 3 _ rfl
            clear k2 k3
            go_wp2
            have hk := HK.out
            go_roundg (gk - 1)
            case measure => omega
            case rel => exact ⟨j + 1, _, _, rfl, rfl, by simp, by omega, rfl, (HJ.out.2.1.then (keeps_alloc _ _)).then K2, HJ.out.2.2.quiet ((keeps_alloc _ _).then K2)⟩
          · go_wp2_with fail
            refine Calls.mono (HS.out _) ?_
            rintro e w2 ⟨rfl, k2⟩
            go_wp2_with fail
            refine Calls.mono (HG.out _) ?_
            rintro e w3 ⟨rfl, k3⟩
            have K2 := k2.then k3
            have T2 := (HJ.out.2.2.quiet ((keeps_alloc wr _).then K2)).2 2 _ rfl
            clear k2 k3
            go_wp2
            have hk := HK.out
            go_roundg (gk - 1)
            case measure => omega
            case rel => exact ⟨j + 1, _, _, rfl, rfl, by simp, by omega, rfl, (HJ.out.2.1.then (keeps_alloc _ _)).then K2, HJ.out.2.2.quiet ((keeps_alloc _ _).then K2)⟩
          · go_wp2_with fail
            refine Calls.mono (HS.out _) ?_
            rintro e w2 ⟨rfl, k2⟩
            go_wp2_with fail
            refine Calls.mono (HG.out _) ?_
            rintro e w3 ⟨rfl, k3⟩
            have K2 := k2.then k3
            have T2 := (HJ.out.2.2.quiet ((keeps_alloc wr _).then K2)).2 4 _ rfl
            clear k2 k3
            go_wp2
            go_ret
            exact ⟨rfl, below_of_keeps ((HJ.out.2.1.then (keeps_alloc _ _)).then K2)⟩
      · have d16' : (P16 != 0) = true := by simpa using d16
        clear d16
        rcases hand_step en (hand_swap HJ.out.1) HM.out with ⟨er, e1, e2⟩ | ⟨s, t, e1, e2, hst⟩
        · have HS := sk_of e1
          clear e1
          go_wp2_with fail
          refine Calls.mono (HS.out _) ?_
          rintro e w2 ⟨rfl, k2⟩
          have K2 := k2
          go_wp2
          have hk := HK.out
          go_roundg (gk - 1)
          case measure => omega
          case rel => exact ⟨j + 1, _, _, rfl, rfl, by simp, by omega, (hand_swap HJ.out.1), (HJ.out.2.1.then (keeps_alloc _ _)).then K2, HJ.out.2.2.quiet ((keeps_alloc _ _).then K2)⟩
        · have HS := sk_of e1
          have HG := gk_of e2
          clear e1 e2
          rcases hst with ⟨rfl, rfl⟩ | ⟨rfl, rfl⟩ | ⟨rfl, rfl⟩ | ⟨rfl, rfl⟩
          · go_wp2_with fail
            refine Calls.mono (HS.out _) ?_
            rintro e w2 ⟨rfl, k2⟩
            go_wp2_with fail
            refine Calls.mono (HG.out _) ?_
            rintro e w3 ⟨rfl, k3⟩
            have K2 := k2.then k3
            have T2 := (HJ.out.2.2.quiet ((keeps_alloc wr _).then K2)).2 1 _ rfl
            clear k2 k3
            go_wp2
            have hk := HK.out
            go_roundg (gk - 1)
            case measure => omega
            case rel => exact ⟨j + 1, _, _, rfl, rfl, by simp, by omega, rfl, (HJ.out.2.1.then (keeps_alloc _ _)).then K2, HJ.out.2.2.quiet ((keeps_alloc _ _).then K2)⟩
          · go_wp2_with fail
            refine Calls.mono (HS.out _) ?_
            rintro e w2 ⟨rfl, k2⟩
            go_wp2_with fail
            refine Calls.mono (HG.out _) ?_
            rintro e w3 ⟨rfl, k3⟩
            have K2 := k2.then k3
            have T2 := (HJ.out.2.2.quiet ((keeps_alloc wr _).then K2)).2 3 _ rfl
            clear k2 k3
            go_wp2
            have hk := HK.out
            go_roundg (gk - 1)
            case measure => omega
            case rel => exact ⟨j + 1, _, _, rfl, rfl, by simp, by omega, rfl, (HJ.out.2.1.then (keeps_alloc _ _)).then K2, HJ.out.2.2.quiet ((keeps_alloc _ _).then K2)⟩
          · go_wp2_with fail
            refine Calls.mono (HS.out _) ?_
            rintro e w2 ⟨rfl, k2⟩
            go_wp2_with fail
            refine Calls.mono (HG.out _) ?_
            rintro e w3 ⟨rfl, k3⟩
            have K2 := k2.then k3
            have T2 := (HJ.out.2.2.quiet ((keeps_alloc wr _).then K2)).2 2 _ rfl
            clear k2 k3
            go_wp2
            have hk := HK.out
            go_roundg (gk - 1)
            case measure => omega
            case rel => exact ⟨j + 1, _, _, rfl, rfl, by simp, by omega, rfl, (HJ.out.2.1.then (keeps_alloc _ _)).then K2, HJ.out.2.2.quiet ((keeps_alloc _ _).then K2)⟩
          · go_wp2_with fail
            refine Calls.mono (HS.out _) ?_
            rintro e w2 ⟨rfl, k2⟩
            go_wp2_with fail
            refine Calls.mono (HG.out _) ?_
            rintro e w3 ⟨rfl, k3⟩
            have K2 := k2.then k3
            have T2 := (HJ.out.2.2.quiet ((keeps_alloc wr _).then K2)).2 4 _ rfl
            clear k2 k3
            go_wp2
            go_ret
            exact ⟨rfl, below_of_keeps ((HJ.out.2.1.then (keeps_alloc _ _)).then K2)⟩
    · clear HC hk
      go_wp2
      go_ret
      exact ⟨rfl, below_of_keeps HJ.out.2.1⟩
theorem sides_true (p : Option Addr) (cap : Nat) (l : List Int) (W : World) (hE : Env W) (h : Ints W p l) : Calls Tryd.prog 5 #[.slice p l.length cap] W (Fine W) := by
  by_cases ho : 100 < l.length
  · exact sides_off p _ cap W hE ho h.2
  · obtain ⟨b, off, ha, hc⟩ := h.at
    exact sides_main p b off cap l W hE (by omega) ha hc
end Go.Proofs.YtblhgifmdcghoaaDoor
