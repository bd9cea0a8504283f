/-
  The law BlockBetween as a walk: a frame that is none of the block.
-/
import Derived.Test.YtdpbnlamdgdljaaJBetweenW
namespace Go.Proofs.Ytdpbnlamdgdljaa
open Go.RowKit
attribute [local irreducible] nums str pieceN cutAt takeA opnK cutA zerosB checkA

set_option maxRecDepth 100000 in
set_option maxHeartbeats 4000000 in
theorem between_main (b : ByteArray) (f : Frm) (at' : Int) (w : World) (h1 : 65 ≤ b.size) (h2 : b.size ≤ 600) (h3 : f.body.size ≤ 600) (hf : ¬ (f.kind = 9 ∧ f.id = 1)) : Calls Try.prog 6 #[.string b, frval f, .int .i64 at'] w (Fine w) := by
  have HA : Hid (∀ W, Calls Try.prog 9 #[] W fun e w' => e = .returned (.bool true) ∧ Keeps nobody W w') := alive_ok
  have HC : Hid (∀ W ts, Hold w W ts → Calls Try.prog 10 #[.int .i64 1, .string b, .bool false, .int .i64 64] W fun r w' => ∃ rb c, r = .returned (.tuple #[.slice (some ⟨rb, 0, none⟩) (pieceN b.size 64) c, .bool true]) ∧ Hid (Hold w w' (rowT (.slice (some ⟨rb, 0, none⟩) (pieceN b.size 64) c) (cutA 1 b false 64) :: ts))) := fun W ts hh => t_cut hh 1 64 b false (by decide) (by omega)
  have HN : Hid (∀ W ts, Hold w W ts → Calls Try.prog 14 #[.int .i64 1000] W fun e w' => ∃ g v, e = .returned (.pointer (some ⟨g, 0, none⟩)) ∧ Hid (Hold w w' (blT g v 1000 noO :: ts))) := fun W ts h => t_bnew h 1000 (by decide) (by decide)
  have HF := hid (fun j hj => between_step b j h2 hj)
  have HE := hid (fun k hk => between_bad b f k hk hf)
  have HL := hid (fun k hk hn => between_last b k hk hn)
  have HI := hid (fun k => opnK_id 1 b false 64 k)
  have hbs : ∀ k, (opnK 1 b false 64 k).bytes.size ≤ 600 := fun k => by rw [opnK_bytes, ByteArray.size_extract]; omega
  have HBS := hid hbs
  have HT : Hid (∀ f o r o2 W g v ts, o.bytes.size + f.body.size ≤ 140737488355328 → takeA 1000 o f = (r, o2) → Hold w W (blT g v 1000 o :: ts) → Calls Try.prog 15 #[.pointer (some ⟨g, 0, none⟩), frval f] W fun e w' => e = .returned (takeV r) ∧ ∃ v', Hid (Hold w w' (blT g v' 1000 o2 :: ts))) := fun f o r o2 W g v ts hs ht h => by
    have := t_take h f hs
    rwa [ht] at this
  have HO : Hid (∀ o W g v ts, Hold w W (blT g v 1000 o :: ts) → Calls Try.prog 16 #[.pointer (some ⟨g, 0, none⟩)] W fun e w' => e = .returned (.int .i64 o.id) ∧ W = w') := fun o W g v ts h => t_bopen h
  have HR : Hid (∀ W, Calls Try.prog 19 #[frval f] W fun e w' => e = .returned (checkV (checkA f)) ∧ Keeps nobody W w') := fun W => rcheck_ok f W (by omega)
  have hn : 2 ≤ pieceN b.size 64 := by
    unfold pieceN
    rw [if_neg (by omega)]
    exact (Nat.le_div_iff_mul_le (by decide)).2 (by omega)
  have hn2 : pieceN b.size 64 ≤ 47 := piece_few (by decide) (by omega)
  have e0 : opnK 1 b false 64 0 = noO := by unfold opnK; rfl
  have H00 := hid ((hold_start w).box f)
  generalize cutA 1 b false 64 = L at *
  generalize pieceN b.size 64 = n at *
  generalize opnK 1 b false 64 = P at *
  generalize checkA f = cc at *
  obtain ⟨c1, c2⟩ := cc
  generalize hw : (if (c1, c2).2 ≠ 0 then (1 : Int) else 11) = want at HE
  clear hbs
  -- the place
  obtain ⟨D, hD⟩ : ∃ D : Nat, D = n - 1 := ⟨_, rfl⟩
  have hD1 : 1 ≤ D := by omega
  have hDn : (n : Int) - 1 = (D : Int) := by omega
  have ht1 := Int.lt_tmod_of_pos at' (show (0 : Int) < (D : Int) by omega)
  have ht2 := Int.tmod_lt_of_pos at' (show (0 : Int) < (D : Int) by omega)
  generalize hkt : at'.tmod (D : Int) = t at *
  obtain ⟨s, hs⟩ : ∃ s : Nat, t + (n : Int) - 1 = (s : Int) := Int.eq_ofNat_of_zero_le (by omega)
  obtain ⟨k0, hk0⟩ : ∃ k0 : Nat, k0 = s % D := ⟨_, rfl⟩
  have hkD : k0 < D := by rw [hk0]; exact Nat.mod_lt _ (by omega)
  have hr1 : (s : Int) % (D : Int) = (k0 : Int) := by omega
  have hr2 : (s : Int).tmod (D : Int) = (k0 : Int) := by rw [hk0]; rfl
  have hk1 : (1 : Int) + (k0 : Int) = ((k0 + 1 : Nat) : Int) := by omega
  have hkn : k0 + 1 < n := by omega
  obtain ⟨k, fl, id, fb⟩ := f
  simp only at h3 hf
  have hkid : (k == 9) = false ∨ ((k == 9) = true ∧ (id == 1) = false) := by
    by_cases hk9 : k = 9
    · have : id ≠ 1 := fun e => hf ⟨hk9, e⟩
      simp [hk9, this]
    · simp [hk9]
  have hc1 : (c2 != 0) = true ∧ want = 1 ∨ (c2 != 0) = false ∧ want = 11 := by
    by_cases h0 : c2 = 0
    · right
      subst h0
      exact ⟨rfl, by rw [← hw]; rfl⟩
    · left
      exact ⟨by simpa using h0, by rw [← hw, if_pos h0]⟩
  clear hf hw hk0 hkD hD
  generalize k0 + 1 = q at *
  have hq1 : 1 ≤ q := by omega
  rcases hkid with g9 | ⟨g9, gi⟩
  all_goals
    go_enter Try.func6, Try.ntmps6
    go_wp2_with fail
    refine Calls.mono (HA.out _) ?_
    rintro r w0 ⟨rfl, k0'⟩
    have H0 := hid (H00.out.quiet k0')
    clear HA k0' H00
    go_wp2_with fail
    refine Calls.mono (HC.out _ _ H0.out) ?_
    rintro r w1 ⟨rb, c, rfl, H1⟩
    clear H0 HC
    go_wp2_with fail
    refine Calls.mono (HN.out _ _ H1.out) ?_
    rintro r w2 ⟨g, v, rfl, H2⟩
    obtain ⟨b0, b1, b2, b3, _⟩ := H2.out.bx (g := w.heap.size) (f := ⟨k, fl, id, fb⟩) (by simp)
    simp only at b0 b1 b2 b3
    have hsl := slice_frames rb n c q (by have := row_cap H2.out (rb := rb) (n := n) (c := c) (l := L) (by simp); omega)
    clear H1 HN
    go_wp2_with fail
    clear b0 b1 b2 b3 hsl
    go_loopg [99] q (fun m iv wr => ∃ (j : Nat) (v : Value), iv = .int .i64 (j : Int) ∧ m + j = q ∧ Hid (Hold w wr [blT g v 1000 (P j), rowT (.slice (some ⟨rb, 0, none⟩) n c) L, bxT w.heap.size ⟨k, fl, id, fb⟩]))
    case atStart => exact ⟨0, v, rfl, rfl, by show Hold _ _ _; rw [e0]; exact H2.out⟩
    case round =>
      clear H2 e0
      obtain ⟨j, v, rfl, hk, H1⟩ := hrel
      by_cases hj : j < q
      · obtain ⟨f, hat, hfs, ht⟩ := HF.out j (by omega)
        obtain ⟨r0, r1, r2, r3⟩ := H1.out.row (rb := rb) (n := n) (c := c) (l := L) (by simp) j _ hat
        have hrb := H1.out.rowLt (rb := rb) (n := n) (c := c) (l := L) (by simp)
        have H3 := hid ((H1.out.quiet (keeps_alloc wr (frobj f.kind f.flags f.id f.body))))
        have HK := hid hk
        have HT' : Hid (∀ W g v ts, Hold w W (blT g v 1000 (P j) :: ts) → Calls Try.prog 15 #[.pointer (some ⟨g, 0, none⟩), frval f] W fun e w' => e = .returned (.tuple #[.agg #[.int .i64 0, .string ⟨#[]⟩, .bool false], .bool false, .int .i64 0]) ∧ ∃ v', Hid (Hold w w' (blT g v' 1000 (P (j + 1)) :: ts))) := fun W g v ts => HT.out _ _ _ _ W g v ts hfs ht
        have HO' := hid (fun W g v ts => HO.out (P (j + 1)) W g v ts)
        rw [HI.out j] at HO'
        obtain ⟨fk, ff, fi, fb2⟩ := f
        simp only at r0 r1 r2 r3 H3
        clear H1 hat HF hk HT HO HI ht hfs HE HL HBS HR
        go_wp2_with fail
        refine Calls.mono (HT'.out _ _ _ _ H3.out) ?_
        rintro r w4 ⟨rfl, v4, H4⟩
        have H5 := hid (H4.out.quiet (keeps_alloc w4 (.cells #[.int .i64 0, .string ⟨#[]⟩, .bool false] 41)))
        clear H3 H4 HT' r0 r1 r2 r3
        go_wp2_with fail
        refine Calls.mono (HO'.out _ _ _ _ H5.out) ?_
        rintro r w6 ⟨rfl, rfl⟩
        go_wp2
        have hk := HK.out
        go_roundg (gk - 1)
        case measure => omega
        case rel => exact ⟨j + 1, v4, by simp, by omega, H5.out⟩
      · obtain rfl : j = q := by omega
        have hE := HE.out j hq1
        obtain ⟨f, hat, hfz, ht⟩ := HL.out j hq1 hkn
        have HT1 : Hid (∀ W g v ts, Hold w W (blT g v 1000 (P j) :: ts) → Calls Try.prog 15 #[.pointer (some ⟨g, 0, none⟩), frval ⟨k, fl, id, fb⟩] W fun e w' => e = .returned (.tuple #[.agg #[.int .i64 0, .string ⟨#[]⟩, .bool false], .bool false, .int .i64 want]) ∧ ∃ v', Hid (Hold w w' (blT g v' 1000 noO :: ts))) := fun W g v ts => HT.out _ _ _ _ W g v ts (by have := HBS.out j; show (P j).bytes.size + fb.size ≤ _; omega) hE
        have HT2 : Hid (∀ W g v ts, Hold w W (blT g v 1000 noO :: ts) → Calls Try.prog 15 #[.pointer (some ⟨g, 0, none⟩), frval f] W fun e w' => e = .returned (.tuple #[.agg #[.int .i64 0, .string ⟨#[]⟩, .bool false], .bool false, .int .i64 11]) ∧ ∃ v', Hid (Hold w w' (blT g v' 1000 noO :: ts))) := fun W g v ts => HT.out f noO _ _ W g v ts (by show 0 + f.body.size ≤ _; omega) ht
        have HO' : Hid (∀ W g v ts, Hold w W (blT g v 1000 noO :: ts) → Calls Try.prog 16 #[.pointer (some ⟨g, 0, none⟩)] W fun e w' => e = .returned (.int .i64 0) ∧ W = w') := fun W g v ts => HO.out noO W g v ts
        obtain ⟨b0, b1, b2, b3, _⟩ := H1.out.bx (g := w.heap.size) (f := ⟨k, fl, id, fb⟩) (by simp)
        have hbl0 := H1.out.lt (t := bxT w.heap.size ⟨k, fl, id, fb⟩) (by simp) w.heap.size rfl
        have hnj : j < n := hkn
        obtain ⟨fk, ff, fi, fb2⟩ := f
        simp only at b0 b1 b2 b3
        clear HF HT HO HI hE HL HBS hk hj ht hfz HE
        go_wp2_with fail
        refine Calls.mono (HT1.out _ _ _ _ H1.out) ?_
        rintro r w4 ⟨rfl, v4, H4⟩
        have H5 := hid (H4.out.quiet (keeps_alloc w4 (.cells #[.int .i64 0, .string ⟨#[]⟩, .bool false] 41)))
        obtain ⟨b0, b1, b2, b3, _⟩ := H5.out.bx (g := w.heap.size) (f := ⟨k, fl, id, fb⟩) (by simp)
        simp only at b0 b1 b2 b3
        clear H1 H4 HT1
        go_wp2_with fail
        refine Calls.mono (HR.out _) ?_
        rintro r w6 ⟨rfl, k6⟩
        have H6 := hid (H5.out.quiet k6)
        obtain ⟨r0, r1, r2, r3⟩ := H6.out.row (rb := rb) (n := n) (c := c) (l := L) (by simp) j _ hat
        have hrb := H6.out.rowLt (rb := rb) (n := n) (c := c) (l := L) (by simp)
        simp only at r0 r1 r2 r3
        clear H5 k6 HR b0 b1 b2 b3
        rcases hc1 with ⟨gc, rfl⟩ | ⟨gc, rfl⟩
        all_goals
          go_wp2_with fail
          refine Calls.mono (HT2.out _ _ _ _ H6.out) ?_
          rintro r w7 ⟨rfl, v7, H7⟩
          have H8 := hid (H7.out.quiet (keeps_alloc w7 (.cells #[.int .i64 0, .string ⟨#[]⟩, .bool false] 41)))
          clear H6 H7 HT2 r0 r1 r2 r3
          go_wp2_with fail
          refine Calls.mono (HO'.out _ _ _ _ H8.out) ?_
          rintro r w9 ⟨rfl, rfl⟩
          go_wp2
          go_ret
          exact ⟨rfl, H8.out.below⟩
theorem between_true (b : ByteArray) (f : Frm) (at' : Int) (w : World) (_ : b.size ≤ 140737488355328) (_ : f.body.size ≤ 140737488355328) : Calls Try.prog 6 #[.string b, frval f, .int .i64 at'] w (Fine w) := by
  by_cases h : b.size < 65 ∨ 600 < b.size ∨ 600 < f.body.size
  · exact between_off b f at' w h
  · by_cases hf : f.kind = 9 ∧ f.id = 1
    · obtain ⟨k, fl, id, fb⟩ := f
      obtain ⟨rfl, rfl⟩ : k = 9 ∧ id = 1 := hf
      simp only at h
      exact between_own b fl fb at' w (by omega) (by omega) (by omega)
    · exact between_main b f at' w (by omega) (by omega) (by omega) hf
end Go.Proofs.Ytdpbnlamdgdljaa
