/-
  The law SqueezePads as a walk.
-/
import Derived.Test.YtnaheinebhcimaaSAlive
namespace Go.Proofs.Ytnaheinebhcimaa
open Go.RowKit
attribute [local irreducible] bitsN nb

theorem pads_long (s : ByteArray) (bit : Int) (w : World) (h : 100 < s.size ∨ s = ⟨#[]⟩) : Calls Try.prog 7 #[.string s, .int .i64 bit] w (Fine w) := by
  have hA : Hid (∀ w, Calls Try.prog 9 #[] w fun e w' => e = .returned (.bool true) ∧ Below w.heap.size w w') := alive_true
  rcases h with h | rfl
  all_goals
    go_enter Try.func7, Try.ntmps7
    go_wp2_with fail
    refine Calls.mono (hA.out _) ?_
    rintro e w1 ⟨rfl, hB⟩
    go_wp2
    go_ret
    exact ⟨rfl, hB⟩

theorem conv_drew (y : Nat) (w : World) : (convert 32 9 (.slice (some ⟨w.heap.size, 0, none⟩) 1 1)).run Try.prog (w.alloc (.cells #[.int .u8 (y : Int)] 5)).drew = .ok (.string (str [y])) (w.alloc (.cells #[.int .u8 (y : Int)] 5)).drew :=
  conv_own (w.alloc (.cells #[.int .u8 (y : Int)] 5)).drew w.heap.size (.slice (some ⟨w.heap.size, 0, none⟩) 1 1) _ [y] _ (ownsRow_one w _ (Nat.le_refl _) y).drew rfl
theorem toList_ne (A s : ByteArray) (h : A ≠ s) : (A.toList == s.toList) = false := by
  rw [beq_eq_false_iff_ne]
  intro he
  apply h
  rw [ByteArray.toList_eq, ByteArray.toList_eq] at he
  apply ByteArray.ext
  exact Array.ext' he
theorem which_bit (bit : Int) (pad : Nat) (h0 : 0 < pad) (h8 : pad < 8) : ∃ K : Nat, (wrap64 (bit.tmod (pad : Int) + (pad : Int))).tmod (pad : Int) = (K : Int) ∧ K < pad := by
  have h1 := Int.tmod_lt_of_pos bit (b := (pad : Int)) (by omega)
  have h2 := Int.lt_tmod_of_pos bit (b := (pad : Int)) (by omega)
  generalize bit.tmod (pad : Int) = t at *
  have hw : wrap64 (t + pad) = t + pad := by unfold wrap64; omega
  rw [hw]
  have h3 := Int.tmod_lt_of_pos (t + pad) (b := (pad : Int)) (by omega)
  have h4 := Int.tmod_nonneg (pad : Int) (show 0 ≤ t + pad by omega)
  exact ⟨((t + pad).tmod pad).toNat, by omega, by omega⟩
theorem xor_ne (a b : Nat) (hb : b ≠ 0) : a ^^^ b ≠ a := by
  intro h
  have := congrArg (a ^^^ ·) h
  simp [← Nat.xor_assoc] at this
  exact hb this
theorem nums_extract (b : ByteArray) (j : Nat) : nums (b.extract 0 j) = (nums b).take j := by
  simp [nums, List.map_take]
/-- One byte less, another in its place: not the same. -/
theorem turned_ne (p : ByteArray) (L z : Nat) (hL : p.size = L + 1) (hz : z < 256) (hne : z ≠ (p[L]'(by omega)).toNat) : p.extract 0 L ++ str [z] ≠ p := by
  intro h
  have h1 := congrArg nums h
  rw [nums_append, nums_extract, nums_str [z] (by simpa using hz)] at h1
  have h2 := nums_take_snoc p L (by omega)
  rw [nums_all p (L + 1) (by omega)] at h2
  have := List.append_cancel_left (h1.trans h2)
  simp at this
  exact hne this

set_option maxRecDepth 100000 in
set_option maxHeartbeats 4000000 in
theorem pads_main (s : ByteArray) (bit : Int) (w : World) (h1 : ¬ 100 < s.size) (h0 : 0 < s.size) : Calls Try.prog 7 #[.string s, .int .i64 bit] w (Fine w) := by
  have hA : Hid (∀ w, Calls Try.prog 9 #[] w fun e w' => e = .returned (.bool true) ∧ Below w.heap.size w w') := alive_true
  have hP : Hid (∀ w, Calls Try.prog 10 #[.string s] w fun e w' => e = .returned (.string (str (putL (nums s)))) ∧ Below w.heap.size w w') := fun w => put_ok s w (by omega)
  have hb := bitsN_size s
  have hps := put_size s
  have hpad := putL_length (nums s)
  have hpl := padN_lt (nums s)
  rw [← str_size] at hpad
  have hM : Hid (nums (str (putL (nums s))) = putL (nums s)) := nums_put _
  have hG1 : Hid (∀ w, Calls Try.prog 11 #[.string (str (putL (nums s)) ++ ⟨#[255]⟩)] w fun e w' => e = .returned (.tuple #[.string ⟨#[]⟩, .int .i64 3]) ∧ Below w.heap.size w w') := by
    intro w
    have := get_ok (str (putL (nums s)) ++ ⟨#[255]⟩) w (by rw [ByteArray.size_append]; have : (ByteArray.mk #[255]).size = 1 := rfl; omega)
    rw [nums_append, nums_put, show nums ⟨#[255]⟩ = [255] from rfl, getL_more _ (nums_byte s)] at this
    exact this
  have HB : Hid (bitsN (nums s) = bitsN (nums s)) := rfl
  have he := isEmpty_of_size s h0
  have hpne : 0 < (str (putL (nums s))).size := by omega
  generalize hp : str (putL (nums s)) = p at *
  have HP : Hid (str (putL (nums s)) = p) := hp
  clear hp hps
  generalize hN : bitsN (nums s) = n at hb hpad
  have HN : Hid (bitsN (nums s) = n) := hN
  clear hN HB
  generalize padN (nums s) = pad at *
  obtain ⟨L, hL⟩ : ∃ L, p.size = L + 1 := ⟨p.size - 1, by omega⟩
  have hn0 : ((L : Int) + 1 == 0) = false := by simp; omega
  have hD : 8 * ((L : Int) + 1) - (n : Int) = (pad : Int) := by omega
  go_enter Try.func7, Try.ntmps7
  go_wp2_with fail
  refine Calls.mono (hA.out _) ?_
  rintro e wa ⟨rfl, hB⟩
  go_wp2_with fail
  refine Calls.mono (hP.out _) ?_
  rintro e wb ⟨rfl, hB2⟩
  go_wp2
  clear hA hP he
  go_loopg [6, 7] s.size (fun k v i wr => ∃ j r : Nat, i = .int .i64 j ∧ k + j = s.size ∧ wr = wb ∧ r ≤ 1000 ∧ v = .int .i64 r ∧ Hid (bitsN ((nums s).take j) = r))
  case atStart => exact ⟨0, 0, rfl, rfl, rfl, by omega, rfl, by show _ = _; rw [List.take_zero]; unfold bitsN; rfl⟩
  case round =>
    obtain ⟨j, r, rfl, hk, rfl, hr, rfl, hl⟩ := hrel
    by_cases hj : j < s.size
    · have hix := index_at s j hj
      have hB' : Hid (∀ w, Calls Try.prog 15 #[.int .u8 ((s[j]'hj).toNat : Int)] w fun e w' => e = .returned (.int .i64 (nb (s[j]'hj).toNat : Int)) ∧ w = w') := fun w => bits_ok _ w (UInt8.toNat_lt _)
      have hl2 : Hid (bitsN ((nums s).take (j + 1)) = r + nb (s[j]'hj).toNat ∧ gk + j = s.size) := ⟨by rw [nums_take_snoc _ j hj, bitsN_snoc, hl.out], hk⟩
      have hnb := nb_bounds (s[j]'hj).toNat
      generalize (s[j]'hj).toNat = y at *
      generalize nb y = x at *
      clear hl hk hG1 hn0 hL hpad hpl hpne HP HN hM
      go_wp2_with fail
      refine Calls.mono (hB'.out _) ?_
      rintro e w1 ⟨rfl, rfl⟩
      go_wp2
      obtain ⟨e1, e3⟩ := hl2.out
      have e4 := bitsN_take (nums s) (j + 1)
      rw [nums_length] at e4
      go_roundg (gk - 1)
      case measure => omega
      case rel => exact ⟨j + 1, r + x, by simp, by omega, rfl, by omega, by simp, e1⟩
    · have e1 := hl.out
      rw [nums_all _ j hj, HN.out] at e1
      subst e1
      clear hl hk HN hr
      by_cases hpad0 : pad = 0
      · subst hpad0
        go_wp2_with fail
        refine Calls.mono (hG1.out _) ?_
        rintro e wc ⟨rfl, hB3⟩
        go_wp2
        go_ret
        exact ⟨rfl, (hB.trans (hB2.mono hB.size)).trans (hB3.mono (Nat.le_trans hB.size hB2.size))⟩
      · obtain ⟨K, hK, hKl⟩ := which_bit bit pad (by omega) hpl
        have hpe : ((pad : Int) == 0) = false := by simp; omega
        have hix := index_at p L (by omega)
        have hlast := UInt8.toNat_lt (p[L]'(by omega))
        have hT : 2 ^ K ≤ 64 := by have : 2 ^ K ≤ 2 ^ 6 := Nat.pow_le_pow_right (by decide) (by omega); simpa using this
        have hT0 : 0 < 2 ^ K := Nat.two_pow_pos K
        have hw8 : IntKind.u8.wrap ((2 : Int) ^ K) = ((2 ^ K : Nat) : Int) := by
          have e : (2 : Int) ^ K = ((2 ^ K : Nat) : Int) := by simp
          rw [e]
          generalize 2 ^ K = q at *
          simp [IntKind.wrap, IntKind.bits, IntKind.signed]
          omega
        have hxor := u8_xor_nat (p[L]'(by omega)).toNat (2 ^ K) hlast (by omega)
        have hz := xor_ne (p[L]'(by omega)).toNat (2 ^ K) (by omega)
        have hz2 : (p[L]'(by omega)).toNat ^^^ 2 ^ K < 256 := by have := Nat.xor_lt_two_pow (n := 8) (x := (p[L]'(by omega)).toNat) (y := 2 ^ K) (by omega) (by omega); simpa using this
        have hdif := turned_ne p L _ hL hz2 hz
        clear hz
        generalize (p[L]'(by omega)).toNat = last at *
        generalize 2 ^ K = T at *
        generalize last ^^^ T = z at *
        have hsl : ∀ w, (Instr.slice 9 (.string p) none (some (.int .i64 (L : Int))) none).run Try.prog w = .ok (.string (p.extract 0 L)) w := by
          intro w
          rw [run_slice_string_h w 9 p Try.underlying9 .i64 L (by omega) (by omega)]
          simp
        have hsz1 : (p.extract 0 L).size = L := by simp; omega
        have hsz2 : (str [z]).size = 1 := str_size _
        have HG : Hid (∀ w, Calls Try.prog 11 #[.string (p.extract 0 L ++ str [z])] w fun e w' => e = .returned (got (getL (nums (p.extract 0 L ++ str [z])))) ∧ Below w.heap.size w w') := fun w => get_ok _ w (by rw [ByteArray.size_append]; omega)
        have HQ : Hid (∀ l, getL (nums (p.extract 0 L ++ str [z])) = some l → str l ≠ s) := by
          intro l hl he
          obtain ⟨e1, e2⟩ := putL_getL _ _ (nums_byte _) hl
          rw [← he, nums_str l e1, e2, str_nums] at HP
          exact hdif HP.out
        generalize hg : getL (nums (p.extract 0 L ++ str [z])) = g at *
        obtain ⟨A, E, hgot, HAE⟩ : ∃ (A : ByteArray) (E : Int), got g = .tuple #[.string A, .int .i64 E] ∧ Hid (E = 3 ∨ E = 0 ∧ A ≠ s) := by
          cases g with
          | none => exact ⟨_, _, rfl, .inl rfl⟩
          | some l => exact ⟨_, _, rfl, .inr ⟨rfl, HQ.out l rfl⟩⟩
        rw [hgot] at HG
        clear hg hdif HP hM HQ hgot
        generalize p.extract 0 L = P1 at *
        have hconv := fun w => conv_drew z w
        generalize str [z] = S1 at *
        have hbig : ¬ 9223372036854775807 < L + 1 := by omega
        have hwl : IntKind.i64.wrap (L : Int) = L := by simp [IntKind.wrap, IntKind.bits, IntKind.signed]; omega
        have hwk : IntKind.u64.wrap (K : Int) = K := by simp [IntKind.wrap, IntKind.bits, IntKind.signed]; omega
        go_wp2_with fail
        refine Calls.mono (hG1.out _) ?_
        rintro e wc ⟨rfl, hB3⟩
        go_wp2_with fail
        go_region_law (go_simp; go_at_call 11; refine Calls.mono (HG.out _) ?_; rintro e wd ⟨rfl, hB4⟩)
        have hBc : Below w.heap.size w wc := (hB.trans (hB2.mono hB.size)).trans (hB3.mono (Nat.le_trans hB.size hB2.size))
        have hBd : Below w.heap.size w wd := by
          have h5 := (hBc.alloc hBc.size (.cells #[.int .u8 (z : Int)] 5)).drew
          exact h5.trans (hB4.mono h5.size)
        rcases HAE.out with rfl | ⟨rfl, hne⟩
        · clear HG
          go_wp2
          go_ret
          exact ⟨rfl, hBd⟩
        · clear HG
          have hf := toList_ne A s hne
          clear hne
          go_wp2
          go_ret
          exact ⟨rfl, hBd⟩

theorem squeezePads_true (s : ByteArray) (bit : Int) (w : World) (_hs : s.size ≤ maxLen) : Calls Try.prog 7 #[.string s, .int .i64 bit] w (Fine w) := by
  by_cases h1 : 100 < s.size
  · exact pads_long s bit w (.inl h1)
  · by_cases h0 : 0 < s.size
    · exact pads_main s bit w h1 h0
    · exact pads_long s bit w (.inr (eq_empty_of_size s h0))
end Go.Proofs.Ytnaheinebhcimaa
