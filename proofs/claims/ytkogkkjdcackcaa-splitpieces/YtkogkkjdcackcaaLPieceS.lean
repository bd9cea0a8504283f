/-
  A variable's box as a thing; SplitPieces' own function: frames told as long as there are.
-/
import Derived.Test.YtkogkkjdcackcaaLCat
import Derived.BigQuiet
namespace Go.Proofs.Ytkogkkjdcackcaa
open Go.RowKit

/-- A variable of one cell lies there. -/
def vrT (g : Nat) (v : Value) (T : TypeId) : Thing := ⟨fun k => k = g, fun w => w.heap[g]? = some (.cells #[v] T (0, 0))⟩
section
variable {W w w' : World} {g : Nat} {v v' : Value} {T : TypeId} {ts a b : List Thing}
theorem vrT_ok : (vrT g v T).Ok := ⟨fun {S w w'} h hk hS => by
    have h' : w.heap[g]? = some (.cells #[v] T (0, 0)) := h
    show w'.heap[g]? = _
    rw [hk.block g (Array.getElem?_eq_some_iff.1 h').1 (hS g rfl)]
    exact h', fun {w} h k hk => by
    have h' : w.heap[g]? = some (.cells #[v] T (0, 0)) := h
    have hk' : k = g := hk
    rw [hk']
    exact (Array.getElem?_eq_some_iff.1 h').1⟩
theorem Hold.vr (h : Hold W w ts) (hm : vrT g v T ∈ ts) : w.cell? ⟨g, 0, none⟩ = some v ∧ (∀ n, w.frozen? ⟨g, n, none⟩ = false) ∧ g < w.heap.size := by
  have h' : w.heap[g]? = some (.cells #[v] T (0, 0)) := h.inv _ hm
  exact ⟨by simp [World.cell?, h'], fun n => by simp [World.frozen?, h'], (Array.getElem?_eq_some_iff.1 h').1⟩
theorem Hold.var (h : Hold W w ts) (v : Value) (T : TypeId) : Hold W (w.alloc (.cells #[v] T)) (vrT w.heap.size v T :: ts) := h.add (keeps_alloc _ _) vrT_ok (heap_alloc_new w _) fun k e => by
  have e' : k = w.heap.size := e
  omega
theorem Hold.vset (h : Hold W w (a ++ vrT g v T :: b)) (u : Value) : Hold W (w.setCell ⟨g, 0, none⟩ u) (a ++ vrT g u T :: b) := by
  have h' : w.heap[g]? = some (.cells #[v] T (0, 0)) := h.inv (vrT g v T) (by simp)
  refine h.act ⟨vrT_ok, ?_, (Keeps.refl (fun k => k = g) w).setCell (p := ⟨g, 0, none⟩) (.inl rfl) u, fun _ e => .inl e⟩
  show (w.setCell ⟨g, 0, none⟩ u).heap[g]? = _
  simp [World.setCell, h', Array.getElem?_modify]
theorem Hold.perm {ts' : List Thing} (h : Hold W w ts) (hp : ts.Perm ts') : Hold W w ts' :=
  ⟨h.below, fun s hs => h.ok s (hp.mem_iff.2 hs), fun s hs => h.inv s (hp.mem_iff.2 hs), fun s hs => h.new s (hp.mem_iff.2 hs), hp.pairwise h.apart fun ha k e e2 => ha k e2 e⟩
end
/-- What the next call of Next tells, where B is held, R is to come, and both are the frames from k on. -/
theorem piece_step (l : List Frm) (k : Nat) (B R : ByteArray) (hF : Few 512 l) (h : B ++ R = catA (l.drop k)) :
    (∃ f C, l[k]? = some f ∧ nextR 512 false B = ((f, true, 0), false, C) ∧ C ++ R = catA (l.drop (k + 1))) ∨ (nextR 512 false B = ((noF, false, 0), false, B) ∧ (R = ⟨#[]⟩ → l.length ≤ k)) := by
  by_cases hk : k < l.length
  · obtain ⟨f, hf⟩ : ∃ f, l[k]? = some f := ⟨_, List.getElem?_eq_getElem hk⟩
    have hff := hF f (List.mem_of_getElem? hf)
    rw [drop_at l k f hf, catA] at h
    by_cases hs : 9 + f.body.size ≤ B.size
    · obtain ⟨C, rfl, hC⟩ := whole_put hff.1 h hs
      exact .inl ⟨f, C, hf, next_put 512 hff.1 hff.2, hC⟩
    · refine .inr ⟨nextR_none _ _ (not_great 512 hff.1 hff.2 h) (not_whole hff.1 h (by omega)), fun hR => ?_⟩
      have := congrArg ByteArray.size h
      rw [ByteArray.size_append, ByteArray.size_append, put_size f hff.1, hR] at this
      have h0 : (⟨#[]⟩ : ByteArray).size = 0 := rfl
      omega
  · rw [List.drop_eq_nil_of_le (by omega), catA] at h
    have hB : B = ⟨#[]⟩ := by
      apply eq_empty_of_size
      have := congrArg ByteArray.size h
      rw [ByteArray.size_append] at this
      have h0 : (⟨#[]⟩ : ByteArray).size = 0 := rfl
      omega
    subst hB
    exact .inr ⟨none_next, fun _ => by omega⟩
attribute [local irreducible] putA right nums str nextR catA Few

/-- What lies there while frames are told. -/
abbrev pieces (g sc kc lc : Nat) (v : Value) (B : ByteArray) (k : Nat) (sl : Value) : List Thing :=
  [spT g v 512 false B, vrT kc (.int .i64 (k : Int)) 3, vrT sc (.pointer (some ⟨g, 0, none⟩)) 25, vrT lc sl 38]

set_option maxRecDepth 100000 in
set_option maxHeartbeats 2000000 in
theorem piece_ok (W w : World) (g sc kc lc : Nat) (v : Value) (B R : ByteArray) (k : Nat) (a : Option Addr) (b off cap : Nat) (l : List Frm) (hn : l.length ≤ 30) (ha : Hid (l = [] ∨ a = some ⟨b, off, none⟩)) (HC : Hid (∀ w, Below W.heap.size W w → At w b off l))
    (hF : Few 512 l) (hB : B ++ R = catA (l.drop k)) (hk : k ≤ l.length) (hH : Hold W w (pieces g sc kc lc v B k (.slice a l.length cap))) :
    Calls Try.prog 17 #[.pointer (some ⟨sc, 0, none⟩), .pointer (some ⟨kc, 0, none⟩), .pointer (some ⟨lc, 0, none⟩)] w fun e w' => e = .returned (.bool true) ∧
      ∃ k' v' B', Hid (B' ++ R = catA (l.drop k') ∧ k' ≤ l.length ∧ (R = ⟨#[]⟩ → l.length ≤ k') ∧ Hold W w' (pieces g sc kc lc v' B' k' (.slice a l.length cap))) := by
  have HX : Hid (∀ B f nb ne C w v ts, nextR 512 false B = ((f, nb, ne), false, C) → Hold W w (spT g v 512 false B :: ts) → Calls Try.prog 11 #[.pointer (some ⟨g, 0, none⟩)] w fun e w' => e = .returned (.tuple #[frval f, .bool nb, .int .i64 ne]) ∧ ∃ v', Hid (Hold W w' (spT g v' 512 false C :: ts))) := fun B f nb ne C w v ts hN h => by
    have := t_next h
    rwa [hN] at this
  have HP : Hid (∀ k B, B ++ R = catA (l.drop k) → (∃ f C, l[k]? = some f ∧ nextR 512 false B = ((f, true, 0), false, C) ∧ C ++ R = catA (l.drop (k + 1))) ∨ (nextR 512 false B = ((noF, false, 0), false, B) ∧ (R = ⟨#[]⟩ → l.length ≤ k))) := fun k B h => piece_step l k B R hF h
  have HI : Hid (B ++ R = catA (l.drop k) ∧ k ≤ l.length ∧ Hold W w (pieces g sc kc lc v B k (.slice a l.length cap))) := ⟨hB, hk, hH⟩
  clear hF hB hk hH
  go_enter Try.func17, Try.ntmps17
  go_wp2_with fail
  go_loopg [] (l.length - k) (fun n wr => ∃ (k : Nat) (v : Value) (B : ByteArray), n + k = l.length ∧ Hid (B ++ R = catA (l.drop k) ∧ Hold W wr (pieces g sc kc lc v B k (.slice a l.length cap))))
  case atStart => exact ⟨k, v, B, by have := HI.out.2.1; omega, HI.out.1, HI.out.2.2⟩
  case round =>
    clear HI
    obtain ⟨k, v, B, hk, HJ⟩ := hrel
    obtain ⟨s0, _, _⟩ := HJ.out.2.vr (g := sc) (v := .pointer (some ⟨g, 0, none⟩)) (T := 25) (by simp)
    rcases HP.out k B HJ.out.1 with ⟨f, C, hf, hN, hC⟩ | ⟨hN, hE⟩
    · have hkl : k < l.length := (List.getElem?_eq_some_iff.1 hf).1
      obtain rfl : a = some ⟨b, off, none⟩ := by
        rcases ha.out with h | h
        · rw [h] at hkl; simp at hkl
        · exact h
      have hX := hid (fun w v ts => HX.out B f true 0 C w v ts hN)
      have HD := hid hC
      have HL := hid hf
      have HG := hid hk
      clear hN hC hf HX HP hk
      obtain ⟨fk, ff, fi, fb⟩ := f
      have H1 := hid HJ.out.2
      clear HJ
      go_wp2_with fail
      refine Calls.mono (hX.out _ _ _ H1.out) ?_
      rintro e w2 ⟨rfl, v2, H2⟩
      have H3 := hid (H2.out.quiet (keeps_alloc w2 (frobj fk ff fi fb)))
      obtain ⟨c0, c1, c2, c3⟩ := HC.out _ H3.out.below k _ HL.out
      obtain ⟨k0, k1, k2⟩ := H3.out.vr (g := kc) (v := .int .i64 (k : Int)) (T := 3) (by simp)
      obtain ⟨l0, _, _⟩ := H3.out.vr (g := lc) (v := .slice (some ⟨b, off, none⟩) l.length cap) (T := 38) (by simp)
      simp only at c0 c1 c2 c3
      have hkne : kc < w2.heap.size := (H2.out.vr (g := kc) (v := .int .i64 (k : Int)) (T := 3) (by simp)).2.2
      have t1 : ((l.length : Int) ≤ (k : Int)) = False := by simp only [eq_iff_iff, iff_false]; omega
      clear H1 H2 hX s0 HC
      go_wp2_with fail
      go_quiet (fail)
      have H4 := hid ((H3.out.quiet ((Keeps.refl _ _).drewN nq)).vset (a := [spT g v2 512 false C]) (.int .i64 ((k + 1 : Nat) : Int)))
      go_wp2
      have hg := HG.out
      go_roundg (gk - 1)
      case measure => omega
      case rel => exact ⟨k + 1, v2, C, by omega, HD.out, H4.out⟩
    · have hX := hid (fun w v ts => HX.out B noF false 0 B w v ts hN)
      have HZ := hid hE
      have HG := hid hk
      have H1 := hid HJ.out
      clear hN hE hk HJ HX HP HC
      go_wp2_with fail
      refine Calls.mono (hX.out _ _ _ H1.out.2) ?_
      rintro e w2 ⟨rfl, v2, H2⟩
      go_wp2
      go_ret
      have hg := HG.out
      exact ⟨rfl, k, v2, B, H1.out.1, by omega, HZ.out, H2.out.quiet (keeps_alloc _ _)⟩
end Go.Proofs.Ytkogkkjdcackcaa
