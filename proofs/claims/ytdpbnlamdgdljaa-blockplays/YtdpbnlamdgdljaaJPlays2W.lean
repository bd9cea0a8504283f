/-
  The law BlockPlays as a walk: frames are taken, one by one.
-/
import Derived.Test.YtdpbnlamdgdljaaJPlaysW
import Derived.BigQuiet
namespace Go.Proofs.Ytdpbnlamdgdljaa
open Go.RowKit
attribute [local irreducible] nums str pieceN cutAt takeA opnK cutA zerosB checkA

set_option maxRecDepth 100000 in
set_option maxHeartbeats 4000000 in
theorem bplays_main (m : Nat) (a : Option Addr) (b off cap : Nat) (l : List Frm) (w : World) (h1 : 1 ≤ m) (h2 : m ≤ 9223372036854775807) (hn : l.length ≤ 80)
    (ha : Hid (l = [] ∨ a = some ⟨b, off, none⟩)) (HC : Hid (∀ W, Below w.heap.size w W → AtF W b off l)) : Calls Try.prog 4 #[.int .i64 (m : Int), .slice a l.length cap] w (Fine w) := by
  have HA : Hid (∀ W, Calls Try.prog 9 #[] W fun e w' => e = .returned (.bool true) ∧ Keeps nobody W w') := alive_ok
  have HN : Hid (∀ W ts, Hold w W ts → Calls Try.prog 14 #[.int .i64 (m : Int)] W fun e w' => ∃ g v, e = .returned (.pointer (some ⟨g, 0, none⟩)) ∧ Hid (Hold w w' (blT g v m noO :: ts))) := fun W ts h => t_bnew h m h1 h2
  have HX : Hid (∀ o f W g v ts, o.bytes.size + f.body.size ≤ 140737488355328 → Hold w W (blT g v m o :: ts) → Calls Try.prog 15 #[.pointer (some ⟨g, 0, none⟩), frval f] W fun e w' => e = .returned (takeV (takeA m o f).1) ∧ ∃ v', Hid (Hold w w' (blT g v' m (takeA m o f).2 :: ts))) := fun o f W g v ts hs h => t_take h f hs
  have HY : Hid (∀ o f W rg t ts, o.bytes.size + f.body.size ≤ 140737488355328 → Hold w W (t :: rbT rg m o :: ts) → Calls Try.prog 18 #[.pointer (some ⟨rg, 0, none⟩), frval f] W fun e w' => e = .returned (takeV (takeA m o f).1) ∧ Hid (Hold w w' (t :: rbT rg m (takeA m o f).2 :: ts))) := fun o f W rg t ts hs h => t_rTake h f hs
  have HO : Hid (∀ o W g v ts, Hold w W (blT g v m o :: ts) → Calls Try.prog 16 #[.pointer (some ⟨g, 0, none⟩)] W fun e w' => e = .returned (.int .i64 o.id) ∧ w' = W) := fun o W g v ts h => (t_bopen h).mono fun _ _ h => ⟨h.1, h.2.symm⟩
  have HZ := hid (fun (o : Opn) (f : Frm) => takeA_size m o f)
  go_enter Try.func4, Try.ntmps4
  go_wp2_with fail
  refine Calls.mono (HA.out _) ?_
  rintro e w1 ⟨rfl, k1⟩
  have H1 := hid ((hold_start w).quiet k1)
  clear k1 HA
  go_wp2_with fail
  refine Calls.mono (HN.out _ _ H1.out) ?_
  rintro e w2 ⟨g, v, rfl, H2⟩
  have H3 := hid (H2.out.brnew m)
  clear H1 HN H2
  go_wp2_with fail
  generalize w2.heap.size = rg at *
  go_loopg [60] l.length (fun k i wr => ∃ (j : Nat) (v : Value) (o : Opn), i = .int .i64 (j : Int) ∧ k + j = l.length ∧ Hid (o.bytes.size ≤ 900 * j ∧ Hold w wr [blT g v m o, rbT rg m o]))
  case atStart => exact ⟨0, v, noO, rfl, rfl, by decide, H3.out⟩
  case round =>
    clear H3
    obtain ⟨j, v, o, rfl, hk, HJ⟩ := hrel
    by_cases hj : j < l.length
    · obtain rfl : a = some ⟨b, off, none⟩ := by
        rcases ha.out with h | h
        · rw [h] at hj; simp at hj
        · exact h
      obtain ⟨f, hx⟩ : ∃ f, l[j]? = some f := ⟨_, List.getElem?_eq_getElem hj⟩
      obtain ⟨c0, c1, c2, c3⟩ := HC.out _ HJ.out.2.below j f hx
      have hBs : o.bytes.size ≤ 72000 := by have := HJ.out.1; omega
      have HK := hid hk
      have H4 := hid (HJ.out.2.fbox f)
      clear hk hx HC
      obtain ⟨fk, ff, fi, fb⟩ := f
      simp only at c0 c1 c2 c3 H4
      by_cases h9 : 900 < fb.size
      · clear HX HY HO HZ
        have hB := H4.out.below
        clear H4
        go_wp2
        go_ret
        exact ⟨rfl, hB⟩
      · have hX := hid (fun W g v ts => HX.out o ⟨fk, ff, fi, fb⟩ W g v ts (by show o.bytes.size + fb.size ≤ _; omega))
        have hY := hid (fun W rg t ts => HY.out o ⟨fk, ff, fi, fb⟩ W rg t ts (by show o.bytes.size + fb.size ≤ _; omega))
        have hZ : Hid ((takeA m o ⟨fk, ff, fi, fb⟩).2.bytes.size ≤ 900 * (j + 1)) := by
          have := HZ.out o ⟨fk, ff, fi, fb⟩
          have := HJ.out.1
          simp only at *
          show (takeA m o ⟨fk, ff, fi, fb⟩).2.bytes.size ≤ 900 * (j + 1)
          omega
        clear HX HY HZ HJ hBs
        generalize takeA m o ⟨fk, ff, fi, fb⟩ = T at *
        obtain ⟨⟨⟨qi, qf, qb⟩, wh, er⟩, o2⟩ := T
        have HO2 := hid (fun W g v ts => HO.out o2 W g v ts)
        clear HO
        simp only at hX hY hZ
        go_wp2_with fail
        refine Calls.mono (hX.out _ _ _ _ H4.out) ?_
        rintro e w5 ⟨rfl, v5, H5⟩
        have H6 := hid (H5.out.bbox ⟨qi, qf, qb⟩)
        obtain ⟨b0, b1, b2, b3, _⟩ := H6.out.bx (g := wr.heap.size) (f := ⟨fk, ff, fi, fb⟩) (by simp)
        simp only at b0 b1 b2 b3
        clear H4 H5 hX c0 c1 c2 c3
        go_wp2_with fail
        refine Calls.mono (hY.out _ _ _ _ H6.out) ?_
        rintro e w7 ⟨rfl, H7⟩
        have H8 := hid (H7.out.rbox ⟨qi, qf, qb⟩)
        obtain ⟨x0, x1, x2, _⟩ := H8.out.rs (g := w5.heap.size) (q := ⟨qi, qf, qb⟩) (by simp)
        obtain ⟨y0, y1, y2, _⟩ := H8.out.rs (g := w7.heap.size) (q := ⟨qi, qf, qb⟩) (by simp)
        obtain ⟨⟨re, hre, _⟩, _⟩ := H8.out.rb
        obtain ⟨d0, d1, d2, d3, _⟩ := hre.cells
        have z1 : (qb.toList == qb.toList) = true := beq_list_of_eq rfl
        simp only at x0 x1 x2 y0 y1 y2
        clear H6 H7 hY b0 b1 b2 b3 hre
        have hO := hid (fun n => HO2.out ((w7.alloc (.cells #[.int .i64 qi, .string qb, .bool qf] 50)).drewN n) g v5 _ (H8.out.quiet ((Keeps.refl _ _).drewN n)))
        clear HO2
        go_wp2_with fail
        go_quiet (first | (go_at_call 16; exact Calls.quiet_of_same (hO.out _)))
        go_wp2
        have hk := HK.out
        go_roundg (gk - 1)
        case measure => omega
        case rel => exact ⟨j + 1, v5, o2, by simp, by omega, hZ.out, (H8.out.quiet ((Keeps.refl _ _).drewN _)).sub (by simp)⟩
    · have hj2 : l.length ≤ j := by omega
      clear HX HY HO HZ hk hj
      go_wp2
      go_ret
      exact ⟨rfl, HJ.out.2.below⟩
theorem bplays_true (m : Int) (a : Option Addr) (cap : Nat) (l : List Frm) (w : World) (_ : -9223372036854775808 ≤ m) (hm2 : m ≤ 9223372036854775807) (hF : Frs w a l) : Calls Try.prog 4 #[.int .i64 m, .slice a l.length cap] w (Fine w) := by
  by_cases h : 80 < l.length
  · exact bplays_off m a l.length cap w h
  · by_cases hm : m < 1
    · exact bplays_none m a l.length cap w (by omega) hm
    · obtain ⟨m, rfl⟩ := Int.eq_ofNat_of_zero_le (show 0 ≤ m by omega)
      obtain ⟨b, off, h1, h2⟩ := atF_of hF
      exact bplays_main m a b off cap l w (by omega) (by omega) (by omega) h1 h2
end Go.Proofs.Ytdpbnlamdgdljaa
