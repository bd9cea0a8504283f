/-
  The law BlockGreat as a walk.
-/
import Derived.Test.YtdpbnlamdgdljaaJLive
namespace Go.Proofs.Ytdpbnlamdgdljaa
open Go.RowKit

/-- What the frame number j of a block tells, and what is open then: with more bytes than may be; the last one; one between. -/
theorem great_step (most : Nat) (b : ByteArray) (j : Nat) (hj : j < pieceN b.size 64) (hb : b.size ≤ 1500) :
    ∃ f, (cutA 1 b false 64)[j]? = some f ∧ (opnK 1 b false 64 j).bytes.size + f.body.size ≤ 140737488355328 ∧
      ((most < b.size ∧ takeA most (opnK 1 b false 64 j) f = ((noO, false, 5), noO)) ∨ (b.size ≤ most ∧ takeA most (opnK 1 b false 64 j) f = ((⟨1, false, b⟩, true, 0), noO)) ∨ (j + 1 < pieceN b.size 64 ∧ takeA most (opnK 1 b false 64 j) f = ((noO, false, 0), opnK 1 b false 64 (j + 1)))) := by
  have hc : cuts 1 64 := by decide
  have ht := cut_take most 1 b false 64 j hc hj
  have hp := piece_lt (by decide) hj
  refine ⟨_, cutA_at 1 b false 64 j hj, ?_, ?_⟩
  · rw [cutAt_size _ _ _ _ _ (by decide) hj, opnK_bytes, ByteArray.size_extract]
    omega
  · rw [ht]
    by_cases h1 : most < min (j * 64 + 64) b.size
    · rw [if_pos h1]
      exact .inl ⟨by omega, rfl⟩
    · rw [if_neg h1]
      by_cases h2 : j + 1 = pieceN b.size 64
      · have := (piece_last (by decide) hj).2 h2
        rw [if_pos h2]
        exact .inr (.inl ⟨by omega, rfl⟩)
      · rw [if_neg h2]
        exact .inr (.inr ⟨by omega, rfl⟩)
attribute [local irreducible] nums str pieceN cutAt takeA opnK cutA zerosB

set_option maxRecDepth 100000 in
theorem great_off (b : ByteArray) (m : Int) (w : World) (h : m < 1 ∨ 1000 < m ∨ 1500 < b.size) : Calls Try.prog 7 #[.string b, .int .i64 m] w (Fine w) := by
  have HA : Hid (∀ W, Calls Try.prog 9 #[] W fun e w' => e = .returned (.bool true) ∧ Keeps nobody W w') := alive_ok
  by_cases h1 : m < 1
  · clear h
    go_enter Try.func7, Try.ntmps7
    go_wp2_with fail
    refine Calls.mono (HA.out _) ?_
    rintro e w1 ⟨rfl, k1⟩
    go_wp2
    go_ret
    exact ⟨rfl, below_of_keeps k1⟩
  · have h1' : 1 ≤ m := by omega
    by_cases h2 : 1000 < m
    · clear h h1
      go_enter Try.func7, Try.ntmps7
      go_wp2_with fail
      refine Calls.mono (HA.out _) ?_
      rintro e w1 ⟨rfl, k1⟩
      go_wp2
      go_ret
      exact ⟨rfl, below_of_keeps k1⟩
    · have h3 : 1500 < b.size := by omega
      have h2' : m ≤ 1000 := by omega
      clear h h1 h2
      go_enter Try.func7, Try.ntmps7
      go_wp2_with fail
      refine Calls.mono (HA.out _) ?_
      rintro e w1 ⟨rfl, k1⟩
      go_wp2
      go_ret
      exact ⟨rfl, below_of_keeps k1⟩

set_option maxRecDepth 100000 in
set_option maxHeartbeats 4000000 in
theorem great_main (b : ByteArray) (m : Nat) (w : World) (h1 : 1 ≤ m) (h2 : m ≤ 1000) (hb : b.size ≤ 1500) : Calls Try.prog 7 #[.string b, .int .i64 (m : Int)] w (Fine w) := by
  have HA : Hid (∀ W, Calls Try.prog 9 #[] W fun e w' => e = .returned (.bool true) ∧ Keeps nobody W w') := alive_ok
  have HC : Hid (∀ W ts, Hold w W ts → Calls Try.prog 10 #[.int .i64 1, .string b, .bool false, .int .i64 64] W fun r w' => ∃ rb c, r = .returned (.tuple #[.slice (some ⟨rb, 0, none⟩) (pieceN b.size 64) c, .bool true]) ∧ Hid (Hold w w' (rowT (.slice (some ⟨rb, 0, none⟩) (pieceN b.size 64) c) (cutA 1 b false 64) :: ts))) := fun W ts hh => t_cut hh 1 64 b false (by decide) (by omega)
  have HN : Hid (∀ W ts, Hold w W ts → Calls Try.prog 14 #[.int .i64 (m : Int)] W fun e w' => ∃ g v, e = .returned (.pointer (some ⟨g, 0, none⟩)) ∧ Hid (Hold w w' (blT g v m noO :: ts))) := fun W ts h => t_bnew h m h1 (by omega)
  have HF := hid (fun j hj => great_step m b j hj hb)
  have HT : Hid (∀ f o r o2 W g v ts, o.bytes.size + f.body.size ≤ 140737488355328 → takeA m o f = (r, o2) → Hold w W (blT g v m o :: ts) → Calls Try.prog 15 #[.pointer (some ⟨g, 0, none⟩), frval f] W fun e w' => e = .returned (takeV r) ∧ ∃ v', Hid (Hold w w' (blT g v' m o2 :: ts))) := fun f o r o2 W g v ts hs ht h => by
    have := t_take h f hs
    rwa [ht] at this
  have HO : Hid (∀ W g v ts, Hold w W (blT g v m noO :: ts) → Calls Try.prog 16 #[.pointer (some ⟨g, 0, none⟩)] W fun e w' => e = .returned (.int .i64 0) ∧ W = w') := fun W g v ts h => t_bopen h
  have hn : 0 < pieceN b.size 64 := pieceN_pos _ _ (by decide)
  have hn2 : pieceN b.size 64 ≤ 47 := piece_few (by decide) (by omega)
  have e0 : opnK 1 b false 64 0 = noO := by unfold opnK; rfl
  generalize cutA 1 b false 64 = L at *
  generalize pieceN b.size 64 = n at *
  generalize opnK 1 b false 64 = P at *
  go_enter Try.func7, Try.ntmps7
  go_wp2_with fail
  refine Calls.mono (HA.out _) ?_
  rintro r w0 ⟨rfl, k0⟩
  have H0 := hid ((hold_nil (Below.refl w.heap.size w)).quiet k0)
  clear HA k0
  go_wp2_with fail
  refine Calls.mono (HC.out _ _ H0.out) ?_
  rintro r w1 ⟨rb, c, rfl, H1⟩
  clear H0 HC
  go_wp2_with fail
  refine Calls.mono (HN.out _ _ H1.out) ?_
  rintro r w2 ⟨g, v, rfl, H2⟩
  clear H1 HN
  go_wp2_with fail
  go_loopg [44] n (fun k iv wr => ∃ (j : Nat) (v : Value), iv = .int .i64 (j : Int) ∧ k + j = n ∧ j < n ∧ Hid (Hold w wr [blT g v m (P j), rowT (.slice (some ⟨rb, 0, none⟩) n c) L]))
  case atStart => exact ⟨0, v, rfl, rfl, hn, by show Hold _ _ _; rw [e0]; exact H2.out⟩
  case round =>
    clear H2 e0
    obtain ⟨j, v, rfl, hk, hj, H1⟩ := hrel
    obtain ⟨f, hat, hfs, hcase⟩ := HF.out j hj
    obtain ⟨r0, r1, r2, r3⟩ := H1.out.row (rb := rb) (n := n) (c := c) (l := L) (by simp) j _ hat
    have hrb := H1.out.rowLt (rb := rb) (n := n) (c := c) (l := L) (by simp)
    have H3 := hid ((H1.out.quiet (keeps_alloc wr (frobj f.kind f.flags f.id f.body))))
    have HK := hid hk
    obtain ⟨fk, ff, fi, fb⟩ := f
    simp only at r0 r1 r2 r3 H3
    clear H1 hat HF hk
    rcases hcase with ⟨hm, ht⟩ | ⟨hm, ht⟩ | ⟨hl, ht⟩
    · have HT' := hid (fun W g v ts => HT.out _ _ _ _ W g v ts hfs ht)
      have hgt : (m : Int) < (b.size : Int) := by omega
      clear HT ht hfs
      go_wp2_with fail
      refine Calls.mono (HT'.out _ _ _ _ H3.out) ?_
      rintro r w4 ⟨rfl, v4, H4⟩
      have H5 := hid (H4.out.quiet (keeps_alloc w4 (.cells #[.int .i64 0, .string ⟨#[]⟩, .bool false] 41)))
      clear H3 H4 HT' r0 r1 r2 r3
      go_wp2_with fail
      refine Calls.mono (HO.out _ _ _ _ H5.out) ?_
      rintro r w6 ⟨rfl, rfl⟩
      go_wp2
      go_ret
      exact ⟨rfl, H5.out.below⟩
    · have HT' := hid (fun W g v ts => HT.out _ _ _ _ W g v ts hfs ht)
      have hle : (b.size : Int) ≤ (m : Int) := by omega
      have z1 : (b.toList == b.toList) = true := beq_list_of_eq rfl
      clear HT ht hfs HO
      go_wp2_with fail
      refine Calls.mono (HT'.out _ _ _ _ H3.out) ?_
      rintro r w4 ⟨rfl, v4, H4⟩
      have H5 := hid (H4.out.quiet (keeps_alloc w4 (.cells #[.int .i64 1, .string b, .bool false] 41)))
      clear H3 H4 HT' r0 r1 r2 r3
      go_wp2
      go_ret
      exact ⟨by first | rfl | simp, H5.out.below⟩
    · have HT' := hid (fun W g v ts => HT.out _ _ _ _ W g v ts hfs ht)
      clear HT ht hfs HO
      go_wp2_with fail
      refine Calls.mono (HT'.out _ _ _ _ H3.out) ?_
      rintro r w4 ⟨rfl, v4, H4⟩
      have H5 := hid (H4.out.quiet (keeps_alloc w4 (.cells #[.int .i64 0, .string ⟨#[]⟩, .bool false] 41)))
      clear H3 H4 HT' r0 r1 r2 r3
      go_wp2
      have hk := HK.out
      go_roundg (gk - 1)
      case measure => omega
      case rel => exact ⟨j + 1, v4, by simp, by omega, hl, H5.out⟩
theorem great_true (b : ByteArray) (m : Int) (w : World) (_ : b.size ≤ 140737488355328) : Calls Try.prog 7 #[.string b, .int .i64 m] w (Fine w) := by
  by_cases h : m < 1 ∨ 1000 < m ∨ 1500 < b.size
  · exact great_off b m w h
  · obtain ⟨m, rfl⟩ := Int.eq_ofNat_of_zero_le (show 0 ≤ m by omega)
    exact great_main b m w (by omega) (by omega) (by omega)
end Go.Proofs.Ytdpbnlamdgdljaa
