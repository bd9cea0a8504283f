/-
  Package table: All (slices.Clone).
-/
import Derived.Test.YtlfkomdkimphnaaDoorTUsed
namespace Go.Proofs.YtlfkomdkimphnaaDoor
open Go.RowKit

theorem infoF : (Tryd.prog.info? 28).map (fun i => (i.zero, i.size, i.bytes)) = some (some (.agg #[.string ⟨#[]⟩, .string ⟨#[]⟩]), 2, 32) := by kernel_rfl

set_option maxRecDepth 100000 in
theorem clone_nil (w : World) : Calls Tryd.prog 32 #[.slice none 0 0] w fun e w' => e = .returned (.slice none 0 0) ∧ w = w' := by
  have hq := eql_slice_nil
  go_enter Tryd.func32, Tryd.ntmps32
  go_wp2
  go_ret
  exact ⟨rfl, rfl⟩

set_option maxRecDepth 100000 in
set_option maxHeartbeats 1000000 in
theorem clone_ok {w : World} {base : Nat} {v : Value} {l : List Fld} (h : w.ownsRow base 28 2 v l.length (fcells l)) (hlen : l.length ≤ 1000000) : Calls Tryd.prog 32 #[v] w fun e w' => ∃ v', e = .returned v' ∧ w'.ownsRow w.heap.size 28 2 v' l.length (fcells l) ∧ Keeps nobody w w' := by
  obtain ⟨i5, hi5, hz0, hz1, hz2⟩ := info_parts infoF
  rcases h.2 with ⟨rfl, hn⟩ | ⟨rb, cap, cur, rfl, _, hg, hnc, hcm, _⟩
  · obtain rfl : l = [] := List.eq_nil_of_length_eq_zero hn
    refine Calls.mono (clone_nil w) ?_
    rintro e w' ⟨rfl, rfl⟩
    exact ⟨_, rfl, World.ownsRow_nil _ _ _ _, Keeps.refl _ _⟩
  · have hrb : rb < w.heap.size := (h.lt rb rfl).2
    have hc : ∀ j u, (fcells l)[j]? = some u → (w.alloc (.cells #[] 28)).cell? ((⟨rb, 0, none⟩ : Addr).add j) = some u := by
      intro j u hj
      have := h.cells (g := rb) rfl j u hj
      rw [Addr.add_mid] at this ⊢
      rw [World.cell?_alloc_lt _ _ ⟨rb, 0 + j, none⟩ hrb]
      exact this
    have hown := World.ownsRow_lit (base := w.heap.size) (e := 28) (size := 2) w #[] 0 (Nat.le_refl _) (by unfold maxLen; omega) rfl
    have hfl := fcells_length l
    have hf1 := fcells_one l
    have H1 : Hid (∀ j u, (fcells l)[j]? = some u → (w.alloc (.cells #[] 28)).cell? ((⟨rb, 0, none⟩ : Addr).add j) = some u) := hc
    have H2 := hid hown
    have H3 : Hid ((fcells l).length = l.length * 2) := hfl
    have H4 : Hid (∀ u ∈ fcells l, u.oneCell' = true) := hf1
    clear h hc hown hfl hf1 hg
    have hq := eql_slice_some ⟨rb, 0, none⟩ l.length cap
    go_enter Tryd.func32, Tryd.ntmps32
    go_wp2_with (at_builtin; refine wpList_append_own _ rfl _ _ 33 rfl w.heap.size 28 i5 (.agg #[.string ⟨#[]⟩, .string ⟨#[]⟩]) 2 32 Tryd.underlying33 hi5 hz0 hz1 hz2 rfl (by decide) _ _ _ rfl H2.out ⟨rb, 0, none⟩ l.length cap (fcells l) rfl H3.out H1.out H4.out ?c1 ?c2 ?c3 ?_)
    case c1 => unfold maxLen; omega
    case c2 => omega
    intro v2 w2 hown2 hgrow _
    have HO : Hid (w2.ownsRow w.heap.size 28 2 v2 l.length (fcells l)) := by
      have := hown2
      simpa [Hid] using this
    have hK : Keeps nobody w w2 := ((Keeps.refl _ _).alloc _).grown hgrow (fun k hk => by simp [Value.ownBlock] at hk; omega)
    clear hown2 hgrow
    go_wp2
    go_ret
    exact ⟨v2, rfl, HO.out, hK⟩

theorem all_ok {w : World} {g : Nat} {v : Value} {size : Nat} {l : List Fld} (h : Tab w g v size l) : Calls Tryd.prog 16 #[.pointer (some ⟨g, 0, none⟩)] w fun e w' => ∃ v', e = .returned v' ∧ w'.ownsRow w.heap.size 28 2 v' l.length (fcells l) ∧ Keeps nobody w w' := by
  have hL : Hid (∀ w, Tab w g v size l → Calls Tryd.prog 31 #[.pointer (some ⟨g, 0, none⟩)] w fun e w' => e = .returned v ∧ w = w') := fun w h => list_ok h
  have hlen := h.length
  have hC : Hid (∀ w, Tab w g v size l → Calls Tryd.prog 32 #[v] w fun e w' => ∃ v', e = .returned v' ∧ w'.ownsRow w.heap.size 28 2 v' l.length (fcells l) ∧ Keeps nobody w w') := fun w h => clone_ok h.row (by omega)
  have H : Hid (Tab w g v size l) := h
  clear h
  go_enter Tryd.func16, Tryd.ntmps16
  go_wp2_with fail
  refine Calls.mono (hL.out _ H.out) ?_
  rintro e w1 ⟨rfl, rfl⟩
  go_wp2_with fail
  refine Calls.mono (hC.out _ H.out) ?_
  rintro e w1 ⟨v', rfl, h1, h2⟩
  have HA : Hid (w1.ownsRow w.heap.size 28 2 v' l.length (fcells l) ∧ Keeps nobody w w1) := ⟨h1, h2⟩
  clear h1 h2
  go_wp2
  go_ret
  exact ⟨v', rfl, HA.out⟩
theorem all_nil (w : World) : Calls Tryd.prog 16 #[.pointer none] w fun e w' => e = .returned (.slice none 0 0) ∧ w = w' := by
  have hL : Hid (∀ w, Calls Tryd.prog 31 #[.pointer none] w fun e w' => e = .returned (.slice none 0 0) ∧ w = w') := list_nil
  have hC : Hid (∀ w, Calls Tryd.prog 32 #[.slice none 0 0] w fun e w' => e = .returned (.slice none 0 0) ∧ w = w') := clone_nil
  go_enter Tryd.func16, Tryd.ntmps16
  go_wp2_with fail
  refine Calls.mono (hL.out _) ?_
  rintro e w1 ⟨rfl, rfl⟩
  go_wp2_with fail
  refine Calls.mono (hC.out _) ?_
  rintro e w1 ⟨rfl, rfl⟩
  go_wp2
  go_ret
  exact ⟨rfl, rfl⟩
end Go.Proofs.YtlfkomdkimphnaaDoor
