/-
  Package varint: Put.
-/
import Derived.Test.YtgmhbkmmcboadaaGet
import Derived.OwnWalk
import Derived.Laws.AppendOwn
namespace Go.Proofs.Ytgmhbkmmcboadaa
open Go.RowKit

/-- A list of numbers as a string. -/
def str (l : List Nat) : ByteArray := strOfNums (l.map Int.ofNat)
def cellsOf (l : List Nat) : List Value := l.map fun (x : Nat) => Value.int .u8 (x : Int)
theorem sum_byte (x : Int) (f y : Nat) (h1 : 1 ≤ x) (h2 : x ≤ 8) (hf : f < 256) (hf0 : f % (full x + 1) = 0) (hy : y ≤ full x) : f + y < 256 := by
  obtain rfl | rfl | rfl | rfl | rfl | rfl | rfl | rfl : x = 1 ∨ x = 2 ∨ x = 3 ∨ x = 4 ∨ x = 5 ∨ x = 6 ∨ x = 7 ∨ x = 8 := by omega
  all_goals
    simp [full] at hf0 hy
    omega
theorem or_byte (x : Int) (f y : Nat) (h1 : 1 ≤ x) (h2 : x ≤ 8) (hf : f < 256) (hf0 : f % (full x + 1) = 0) (hy : y ≤ full x) : bits .or .u8 (f : Int) (y : Int) = ((f + y : Nat) : Int) := by
  have := full_bounds x h1 h2
  rw [u8_or_nat f y hf (by omega)]
  have hp : full x + 1 = 2 ^ x.toNat := by unfold full; exact Nat.sub_add_cancel Nat.one_le_two_pow
  rw [nat_join x.toNat f y (by rw [← hp]; exact hf0) (by omega)]
theorem length_tail (r : Nat) (h : r ≤ 2147483647) : (tail7 r).length ≤ 5 := by
  have h5 : (128 : Nat) ^ (4 + 1) = 34359738368 := by decide
  exact length_tail7 4 _ (by omega)

theorem info5 : (Try.prog.info? 5).map (fun i => (i.zero, i.size, i.bytes)) = some (some (.int .u8 0), 1, 1) := by kernel_rfl

theorem ownsRow_one (w : World) (base : Nat) (hb : base ≤ w.heap.size) (x : Nat) : (w.alloc (.cells #[.int .u8 (x : Int)] 5)).ownsRow base 5 1 (.slice (some ⟨w.heap.size, 0, none⟩) 1 1) [x].length (cellsOf [x]) :=
  ⟨by simp [cellsOf], .inr ⟨w.heap.size, 1, #[.int .u8 (x : Int)], rfl, hb, heap_alloc_new w _, Nat.le_refl _, by unfold maxLen; decide, rfl, by simp [cellsOf]⟩⟩

theorem str_data (l : List Nat) : (str l).data = (l.map UInt8.ofNat).toArray := by
  simp [str, strOfNums, Function.comp_def]
theorem conv_own (w : World) (base : Nat) (v : Value) (n : Nat) (l : List Nat) (xs : List Value) (h : w.ownsRow base 5 1 v n xs) (hx : xs = cellsOf l) :
    (convert 32 9 v).run Try.prog w = .ok (.string (str l)) w := by
  subst hx
  have hn : l.length = n := by have := h.1; simpa [cellsOf] using this
  rcases h.2 with ⟨rfl, h0⟩ | ⟨g, cap, cur, rfl, _, _, _⟩
  · have hl : l = [] := List.length_eq_zero_iff.1 (by omega)
    subst hl
    exact run_convert_bytes_nil w 32 5 Try.underlying32 Try.underlying5 0 0 9 Try.underlying9
  · have hc := h.cells (g := g) rfl
    refine run_convert_bytes_arg w 32 5 Try.underlying32 Try.underlying5 g 0 n cap (l.map Int.ofNat) (by simpa using hn) (fun i hi => ?_) 9 Try.underlying9
    have hil : i < l.length := by omega
    have := hc i (.int .u8 (l[i] : Int)) (by simp [cellsOf, List.getElem?_eq_getElem hil])
    have hplain : (⟨g, 0, none⟩ : Addr).add i = ⟨g, 0 + i, none⟩ := by unfold Addr.add; split <;> simp_all
    rw [hplain] at this
    rw [this]
    simp [List.getD, List.getElem?_map, List.getElem?_eq_getElem hil]

set_option maxRecDepth 100000 in
set_option maxHeartbeats 2000000 in
theorem put_long (f n : Nat) (x : Int) (w : World) (h1 : 1 ≤ x) (h2 : x ≤ 8) (hf : f < 256) (hf0 : f % (full x + 1) = 0) (hn : n ≤ 2147483647) (hge : ¬ n < full x) :
    Calls Try.prog 10 #[.int .u8 (f : Int), .int .i64 x, .int .i64 (n : Int)] w fun e w' => e = .returned (.tuple #[.string (str (putN f (full x) n)), .bool true]) ∧ Below w.heap.size w w' := by
  have hI : Hid (∀ w, Calls Try.prog 14 #[.int .i64 x] w fun e w' => e = .returned (.bool true) ∧ w = w') := fun w => isPrefix_yes x w h1 h2
  have hF : Hid (∀ w, Calls Try.prog 15 #[.int .i64 x] w fun e w' => e = .returned (.int .i64 (full x : Int)) ∧ w = w') := fun w => full_ok x w h1 h2
  obtain ⟨hM1, hM2⟩ := full_bounds x h1 h2
  obtain ⟨i5, hi5, hz0, hz1, hz2⟩ := info_parts info5
  have hand : bits .and .i64 (f : Int) (full x : Int) = 0 := by rw [i64_and_nat _ _ (by omega) (by omega), and_full, hf0]; rfl
  have hfm := sum_byte x f (full x) h1 h2 hf hf0 (Nat.le_refl _)
  have hor : bits .or .u8 (f : Int) (full x : Int) = ((f + full x : Nat) : Int) := or_byte x f (full x) h1 h2 hf hf0 (Nat.le_refl _)
  have hput : putN f (full x) n = (f + full x) :: tail7 (n - full x) := by rw [putN, if_neg hge]
  rw [hput]
  have h5 := length_tail (n - full x) (by omega)
  have hrb : n - full x ≤ 2147483647 := by omega
  clear hput hf0 h1 h2
  generalize full x = m at *
  have hsub : ((n : Int) - (m : Int)) = ((n - m : Nat) : Int) := by omega
  generalize n - m = r at *
  generalize f + m = y at *
  go_enter Try.func10, Try.ntmps10
  go_wp2_with (first | (go_at_call 14; refine Calls.mono (hI.out _) ?_; rintro e w1 ⟨rfl, rfl⟩) | (go_at_call 15; refine Calls.mono (hF.out _) ?_; rintro e w1 ⟨rfl, rfl⟩))
  clear hand hI hF hor hsub
  go_loopg [9, 10] r (fun k s v wr => ∃ (rr : Nat) (done : List Nat), v = .int .i64 (rr : Int) ∧ k = rr ∧ rr ≤ 2147483647 ∧ wr.ownsRow w.heap.size 5 1 s done.length (cellsOf done) ∧ Below w.heap.size w wr ∧ done ++ tail7 rr = y :: tail7 r ∧ (∀ u ∈ done, u < 256) ∧ done.length ≤ 6)
  case atStart => exact ⟨r, [y], rfl, rfl, by omega, ownsRow_one w _ (Nat.le_refl _) y, (Below.refl _ _).alloc (Nat.le_refl _) _, rfl, by simpa using hfm, by simp⟩
  case round =>
    obtain ⟨rr, done, rfl, hk, hrr, hown, hB, hd, hbyte, hl6⟩ := hrel
    have hlen : done.length + (tail7 rr).length ≤ 6 := by
      have := congrArg List.length hd
      simp only [List.length_append, List.length_cons] at this
      omega
    have HD : Hid (done ++ tail7 rr = y :: tail7 r ∧ gk = rr ∧ ∀ u ∈ done, u < 256) := ⟨hd, hk, hbyte⟩
    clear hd hk hbyte
    have hpos := length_tail7_pos rr
    have hge : ∀ g, u9.ownBlock = some g → w.heap.size ≤ g := fun g hg => (hown.lt g hg).1
    have hsz := hB.size
    by_cases hlt : rr < 128
    · go_wp2_with (at_builtin; refine wpList_append_own _ rfl _ _ 32 rfl w.heap.size 5 i5 (.int .u8 0) 1 1 Try.underlying32 hi5 hz0 hz1 hz2 rfl (by decide) _ _ _ rfl (hown.alloc _) ⟨wr.heap.size, 0, none⟩ 1 1 [.int .u8 (rr : Int)] rfl rfl ?c1 ?c2 ?c3 ?c4 ?c5 ?_)
      case c1 =>
        intro j u hj
        match j, hj with
        | 0, hj => simp at hj; subst hj; simp [Addr.add]
      case c2 => intro u hu; simp at hu; subst hu; rfl
      case c3 => unfold maxLen; omega
      case c4 => omega
      case c5 => simp; omega
      intro v2 w2 hown2 hgrow _
      have hB2 : Below w.heap.size w w2 := (hB.alloc hsz _).grown hgrow (by simp; omega) (fun k hk => hge k hk)
      have hconv := conv_own w2 w.heap.size v2 _ (done ++ [rr]) _ hown2 (by simp [cellsOf])
      obtain ⟨hd, hk, _⟩ := HD.out
      rw [tail7_low rr hlt] at hd
      rw [hd] at hconv
      clear hown2 hgrow hown hB hd hk HD
      go_wp2
      go_ret2
      exact ⟨rfl, hB2⟩
    · have hor : bits .or .i64 128 ((rr : Int) % 128) = ((128 + rr % 128 : Nat) : Int) := by
        have := i64_or_nat 128 (rr % 128) (by omega) (by omega)
        rw [nat_join 7 128 (rr % 128) (by decide) (by omega)] at this
        simpa using this
      go_wp2_with (at_builtin; refine wpList_append_own _ rfl _ _ 32 rfl w.heap.size 5 i5 (.int .u8 0) 1 1 Try.underlying32 hi5 hz0 hz1 hz2 rfl (by decide) _ _ _ rfl (hown.alloc _) ⟨wr.heap.size, 0, none⟩ 1 1 [.int .u8 ((128 + rr % 128 : Nat) : Int)] rfl rfl ?c1 ?c2 ?c3 ?c4 ?c5 ?_)
      case c1 =>
        intro j u hj
        match j, hj with
        | 0, hj => simp at hj; subst hj; simp [Addr.add]
      case c2 => intro u hu; simp at hu; subst hu; rfl
      case c3 => unfold maxLen; omega
      case c4 => omega
      case c5 => simp; omega
      intro v2 w2 hown2 hgrow _
      have hB2 : Below w.heap.size w w2 := (hB.alloc hsz _).grown hgrow (by simp; omega) (fun k hk => hge k hk)
      obtain ⟨hd, hk, hbyte⟩ := HD.out
      have hlen2 : done.length + 1 ≤ 6 := by omega
      rw [tail7_high rr hlt] at hd
      have HO : Hid (w2.ownsRow w.heap.size 5 1 v2 (done ++ [128 + rr % 128]).length (cellsOf (done ++ [128 + rr % 128]))) := by
        have := hown2
        simpa [cellsOf, Hid] using this
      have HN : Hid (done ++ [128 + rr % 128] ++ tail7 (rr / 128) = y :: tail7 r ∧ gk = rr) := ⟨by rw [← hd]; simp, hk⟩
      clear hown2 hgrow hown hd hk HD hor hlen hpos hge
      go_wp2
      obtain ⟨hd, hk⟩ := HN.out
      go_roundg (rr / 128)
      case measure => omega
      case rel =>
        refine ⟨rr / 128, done ++ [128 + rr % 128], by simp, rfl, by omega, HO.out, hB2, hd, ?_, by simpa using hlen2⟩
        intro u hu
        rcases List.mem_append.1 hu with hu | hu
        · exact hbyte u hu
        · simp at hu; omega

set_option maxRecDepth 100000 in
theorem put_short (f n : Nat) (x : Int) (w : World) (h1 : 1 ≤ x) (h2 : x ≤ 8) (hf : f < 256) (hf0 : f % (full x + 1) = 0) (hlt : n < full x) :
    Calls Try.prog 10 #[.int .u8 (f : Int), .int .i64 x, .int .i64 (n : Int)] w fun e w' => e = .returned (.tuple #[.string (str (putN f (full x) n)), .bool true]) ∧ Below w.heap.size w w' := by
  have hI : Hid (∀ w, Calls Try.prog 14 #[.int .i64 x] w fun e w' => e = .returned (.bool true) ∧ w = w') := fun w => isPrefix_yes x w h1 h2
  have hF : Hid (∀ w, Calls Try.prog 15 #[.int .i64 x] w fun e w' => e = .returned (.int .i64 (full x : Int)) ∧ w = w') := fun w => full_ok x w h1 h2
  obtain ⟨hM1, hM2⟩ := full_bounds x h1 h2
  have hand : bits .and .i64 (f : Int) (full x : Int) = 0 := by rw [i64_and_nat _ _ (by omega) (by omega), and_full, hf0]; rfl
  have hor : bits .or .u8 (f : Int) (n : Int) = ((f + n : Nat) : Int) := or_byte x f n h1 h2 hf hf0 (by omega)
  have hput : putN f (full x) n = [f + n] := by rw [putN, if_pos hlt]
  rw [hput]
  have hconv := conv_own (w.alloc (.cells #[.int .u8 ((f + n : Nat) : Int)] 5)) w.heap.size (.slice (some ⟨w.heap.size, 0, none⟩) 1 1) _ [f + n] _ (ownsRow_one w _ (Nat.le_refl _) (f + n)) rfl
  clear hput hf0 h1 h2
  generalize full x = m at *
  generalize f + n = y at *
  go_enter Try.func10, Try.ntmps10
  go_wp2_with (first | (go_at_call 14; refine Calls.mono (hI.out _) ?_; rintro e w1 ⟨rfl, rfl⟩) | (go_at_call 15; refine Calls.mono (hF.out _) ?_; rintro e w1 ⟨rfl, rfl⟩))
  go_ret2
  exact ⟨rfl, (Below.refl _ _).alloc (Nat.le_refl _) _⟩

theorem put_first (f n : Nat) (x : Int) (w : World) (h1 : 1 ≤ x) (h2 : x ≤ 8) (hf : f < 256) (hf0 : f % (full x + 1) ≠ 0) (hn : n ≤ 2147483647) :
    Calls Try.prog 10 #[.int .u8 (f : Int), .int .i64 x, .int .i64 (n : Int)] w fun e w' => e = .returned (.tuple #[.string ⟨#[]⟩, .bool false]) ∧ w = w' := by
  have hI : Hid (∀ w, Calls Try.prog 14 #[.int .i64 x] w fun e w' => e = .returned (.bool true) ∧ w = w') := fun w => isPrefix_yes x w h1 h2
  have hF : Hid (∀ w, Calls Try.prog 15 #[.int .i64 x] w fun e w' => e = .returned (.int .i64 (full x : Int)) ∧ w = w') := fun w => full_ok x w h1 h2
  obtain ⟨hM1, hM2⟩ := full_bounds x h1 h2
  have hand : bits .and .i64 (f : Int) (full x : Int) = ((f % (full x + 1) : Nat) : Int) := by rw [i64_and_nat _ _ (by omega) (by omega), and_full]
  generalize f % (full x + 1) = p at *
  clear h1 h2
  generalize full x = m at *
  go_enter Try.func10, Try.ntmps10
  go_wp2_with (first | (go_at_call 14; refine Calls.mono (hI.out _) ?_; rintro e w1 ⟨rfl, rfl⟩) | (go_at_call 15; refine Calls.mono (hF.out _) ?_; rintro e w1 ⟨rfl, rfl⟩))
  go_ret2
  exact ⟨rfl, rfl⟩

theorem put_bad (f n x : Int) (w : World) (h : ¬ (1 ≤ x ∧ x ≤ 8 ∧ 0 ≤ n ∧ n ≤ 2147483647)) :
    Calls Try.prog 10 #[.int .u8 f, .int .i64 x, .int .i64 n] w fun e w' => e = .returned (.tuple #[.string ⟨#[]⟩, .bool false]) ∧ w = w' := by
  by_cases hx : 1 ≤ x ∧ x ≤ 8
  · have hI : Hid (∀ w, Calls Try.prog 14 #[.int .i64 x] w fun e w' => e = .returned (.bool true) ∧ w = w') := fun w => isPrefix_yes x w hx.1 hx.2
    by_cases hn : n < 0
    · clear h
      go_enter Try.func10, Try.ntmps10
      go_wp2_with (first | (go_at_call 14; refine Calls.mono (hI.out _) ?_; rintro e w1 ⟨rfl, rfl⟩))
      go_ret2
      exact ⟨rfl, rfl⟩
    · have hn2 : 2147483647 < n := by omega
      clear h
      go_enter Try.func10, Try.ntmps10
      go_wp2_with (first | (go_at_call 14; refine Calls.mono (hI.out _) ?_; rintro e w1 ⟨rfl, rfl⟩))
      go_ret2
      exact ⟨rfl, rfl⟩
  · have hI : Hid (∀ w, Calls Try.prog 14 #[.int .i64 x] w fun e w' => e = .returned (.bool false) ∧ w = w') := fun w => isPrefix_no x w hx
    clear hx h
    go_enter Try.func10, Try.ntmps10
    go_wp2_with (first | (go_at_call 14; refine Calls.mono (hI.out _) ?_; rintro e w1 ⟨rfl, rfl⟩))
    go_ret2
    exact ⟨rfl, rfl⟩

/-- Whether Put takes these. -/
def putIs (f x n : Int) : Prop := 1 ≤ x ∧ x ≤ 8 ∧ 0 ≤ n ∧ n ≤ 2147483647 ∧ f.toNat % (full x + 1) = 0
instance (f x n : Int) : Decidable (putIs f x n) := by unfold putIs; infer_instance
/-- What Put answers. -/
def putAll (f x n : Int) : ByteArray := if putIs f x n then str (putN f.toNat (full x) n.toNat) else ⟨#[]⟩

theorem put_ok (f x n : Int) (w : World) (hf0 : 0 ≤ f) (hf : f < 256) :
    Calls Try.prog 10 #[.int .u8 f, .int .i64 x, .int .i64 n] w fun e w' => e = .returned (.tuple #[.string (putAll f x n), .bool (decide (putIs f x n))]) ∧ Below w.heap.size w w' := by
  by_cases hr : 1 ≤ x ∧ x ≤ 8 ∧ 0 ≤ n ∧ n ≤ 2147483647
  · obtain ⟨h1, h2, h3, h4⟩ := hr
    obtain ⟨F, rfl⟩ := Int.eq_ofNat_of_zero_le hf0
    obtain ⟨N, rfl⟩ := Int.eq_ofNat_of_zero_le h3
    by_cases hm : F % (full x + 1) = 0
    · have hp : putIs F x N := ⟨h1, h2, h3, h4, by simpa using hm⟩
      simp only [putAll, if_pos hp, decide_eq_true hp, Int.toNat_natCast]
      by_cases hlt : N < full x
      · exact put_short F N x w h1 h2 (by omega) hm hlt
      · exact put_long F N x w h1 h2 (by omega) hm (by omega) hlt
    · have hp : ¬ putIs F x N := fun hp => hm (by simpa using hp.2.2.2.2)
      simp only [putAll, if_neg hp, decide_eq_false hp]
      exact (put_first F N x w h1 h2 (by omega) hm (by omega)).mono fun e w' ⟨he, hw⟩ => ⟨he, hw ▸ Below.refl _ _⟩
  · have hp : ¬ putIs f x n := fun hp => hr ⟨hp.1, hp.2.1, hp.2.2.1, hp.2.2.2.1⟩
    simp only [putAll, if_neg hp, decide_eq_false hp]
    exact (put_bad f n x w hr).mono fun e w' ⟨he, hw⟩ => ⟨he, hw ▸ Below.refl _ _⟩
end Go.Proofs.Ytgmhbkmmcboadaa
