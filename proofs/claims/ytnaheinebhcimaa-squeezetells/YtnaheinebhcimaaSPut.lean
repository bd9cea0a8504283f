/-
  Package squeeze: Put.
-/
import Derived.Test.YtnaheinebhcimaaSLen
namespace Go.Proofs.Ytnaheinebhcimaa
open Go.RowKit
attribute [local irreducible] bitsN bitsV code nb val8

/-- So far: these bytes, and n bits that are held. -/
def Sofar (l done : List Nat) (h n : Nat) : Prop := val8 done * 2 ^ n + h = bitsV l ∧ 8 * done.length + n = bitsN l ∧ ∀ x ∈ done, x < 256
theorem sofar_nil : Sofar [] [] 0 0 := by
  refine ⟨?_, ?_, by simp⟩
  · unfold val8 bitsV; rfl
  · unfold bitsN; rfl
theorem sofar_code (l done : List Nat) (h n y : Nat) (hs : Sofar l done h n) : Sofar (l ++ [y]) done (h * 2 ^ nb y + code y) (n + nb y) := by
  obtain ⟨h1, h2, h3⟩ := hs
  refine ⟨?_, ?_, h3⟩
  · rw [bitsV_snoc, ← h1, Nat.add_mul, Nat.pow_add, Nat.mul_assoc]; omega
  · rw [bitsN_snoc]; omega
theorem sofar_byte (l done : List Nat) (x n : Nat) (hs : Sofar l done (x % 2 ^ n) n) (hn : 8 ≤ n) : Sofar l (done ++ [x / 2 ^ (n - 8) % 256]) (x % 2 ^ (n - 8)) (n - 8) := by
  obtain ⟨h1, h2, h3⟩ := hs
  refine ⟨?_, ?_, ?_⟩
  · rw [← h1, val8_snoc]
    have e : n = n - 8 + 8 := by omega
    have e2 : x % 2 ^ n = x % 2 ^ (n - 8) + 2 ^ (n - 8) * (x / 2 ^ (n - 8) % 256) := by
      conv => lhs; rw [e, Nat.pow_add, Nat.mod_mul]
    have e3 : val8 done * 2 ^ n = val8 done * 256 * 2 ^ (n - 8) := by
      conv => lhs; rw [e, Nat.pow_add, Nat.mul_comm (2 ^ (n - 8)), ← Nat.mul_assoc]
    rw [e2, e3, Nat.add_mul, Nat.mul_comm (2 ^ (n - 8))]; omega
  · simp; omega
  · intro u hu
    rcases List.mem_append.1 hu with hu | hu
    · exact h3 u hu
    · simp at hu; omega
theorem sofar_end (l done : List Nat) (hs : Sofar l done 0 0) : done = putL l := by
  obtain ⟨h1, h2, h3⟩ := hs
  exact putL_is l done 0 h3 (by omega) (by omega) (by simpa using h1)
theorem sofar_pad (l done : List Nat) (h n : Nat) (hs : Sofar l done h n) (hn : n < 8) (hn0 : 0 < n) (hh : h < 2 ^ n) : done ++ [h * 2 ^ (8 - n) + (2 ^ (8 - n) - 1)] = putL l := by
  obtain ⟨h1, h2, h3⟩ := hs
  have hlt : h * 2 ^ (8 - n) + (2 ^ (8 - n) - 1) < 256 := by
    have := cat_lt h _ n (8 - n) hh (ones_lt (8 - n))
    rw [show n + (8 - n) = 8 by omega] at this
    exact this
  refine putL_is l _ (8 - n) ?_ (by omega) (by simp; omega) ?_
  · intro u hu
    rcases List.mem_append.1 hu with hu | hu
    · exact h3 u hu
    · simp at hu; omega
  · rw [val8_snoc, ← h1, Nat.add_mul, Nat.mul_assoc, ← Nat.pow_add, show n + (8 - n) = 8 by omega]
    omega
theorem sofar_len (l done : List Nat) (h n : Nat) (hs : Sofar l done h n) : done.length ≤ 2 * l.length := by
  have := (bitsN_bounds l).2
  obtain ⟨_, h2, _⟩ := hs
  omega
theorem shift_lt (h k n m : Nat) (hh : h < 2 ^ n) (hm : n + k ≤ m) : h * 2 ^ k < 2 ^ m := by
  have := cat_lt h 0 n k hh (Nat.two_pow_pos k)
  have h2 : 2 ^ (n + k) ≤ 2 ^ m := Nat.pow_le_pow_right (by decide) hm
  omega

theorem shl_nat (h : Nat) (y : Int) (k : Nat) (hy : y = (k : Int)) (hk : k ≤ 31) (hq : h * 2 ^ k < 256) : Op.shift BinOp.shl .i64 (h : Int) .i64 y = pure (.int .i64 ((h * 2 ^ k : Nat) : Int)) := by
  subst hy
  rw [shift_shl .i64 .i64 (h : Int) (k : Int) (by omega) (by simp [IntKind.bits]; omega)]
  have e : (h : Int) * 2 ^ ((k : Int).toNat) = ((h * 2 ^ k : Nat) : Int) := by simp
  rw [e]
  generalize h * 2 ^ k = q at *
  congr 2
  simp [IntKind.wrap, IntKind.bits, IntKind.signed]
  omega

set_option maxRecDepth 100000 in
set_option maxHeartbeats 4000000 in
theorem put_ok (s : ByteArray) (w : World) (hs : s.size ≤ 1000000) : Calls Try.prog 10 #[.string s] w fun e w' => e = .returned (.string (str (putL (nums s)))) ∧ Below w.heap.size w w' := by
  obtain ⟨i5, hi5, hz0, hz1, hz2⟩ := info_parts info5
  have hO : Hid (∀ (n : Nat) w, n ≤ 31 → Calls Try.prog 18 #[.int .i64 (n : Int)] w fun e w' => e = .returned (.int .i64 ((2 ^ n - 1 : Nat) : Int)) ∧ w = w') := fun n w h => ones_ok n w h
  generalize hP : putL (nums s) = P
  have HP : Hid (putL (nums s) = P) := hP
  clear hP
  go_enter Try.func10, Try.ntmps10
  go_wp2
  go_loopg [3, 4, 5, 11] s.size (fun k v hv nv i wr => ∃ (j h n : Nat) (done : List Nat), i = .int .i64 j ∧ hv = .int .i64 h ∧ nv = .int .i64 n ∧ k + j = s.size ∧ n < 8 ∧ h < 2 ^ n ∧ wr.ownsRow w.heap.size 5 1 v done.length (cellsOf done) ∧ Below w.heap.size w wr ∧ done.length ≤ 2000000 ∧ Hid (Sofar ((nums s).take j) done h n))
  case atStart => exact ⟨0, 0, 0, [], rfl, rfl, rfl, rfl, by omega, by simp, World.ownsRow_nil w _ _ _, Below.refl _ _, by simp, sofar_nil⟩
  case round =>
    obtain ⟨j, h, n, done, rfl, rfl, rfl, hk, hn, hh, hown, hB, hdl, hl⟩ := hrel
    by_cases hj : j < s.size
    · have hix := index_at s j hj
      have hyb := UInt8.toNat_lt (s[j]'hj)
      have hC : Hid (∀ w, Calls Try.prog 17 #[.int .u8 ((s[j]'hj).toNat : Int)] w fun e w' => e = .returned (.tuple #[.int .i64 (code (s[j]'hj).toNat : Int), .int .i64 (nb (s[j]'hj).toNat : Int)]) ∧ w = w') := fun w => codeOf_ok _ w hyb
      have hl2 : Hid (Sofar ((nums s).take (j + 1)) done (h * 2 ^ nb (s[j]'hj).toNat + code (s[j]'hj).toNat) (n + nb (s[j]'hj).toNat) ∧ gk + j = s.size) := ⟨by rw [nums_take_snoc s j hj]; exact sofar_code _ _ _ _ _ hl.out, hk⟩
      have hnb := nb_bounds (s[j]'hj).toNat
      have hcl := code_lt _ hyb
      generalize (s[j]'hj).toNat = y at *
      generalize nb y = b at *
      generalize code y = c at *
      have hq := shift_lt h b n 17 hh (by omega)
      have hor := or_cat h b c hcl (by simp at hq; omega) (by omega)
      have hx := cat_lt h c n b hh hcl
      have hx17 : h * 2 ^ b + c < 131072 := by
        have : 2 ^ (n + b) ≤ 2 ^ 17 := Nat.pow_le_pow_right (by decide) (by omega)
        simp at this; omega
      have hsh : (h : Int) * 2 ^ b = ((h * 2 ^ b : Nat) : Int) := by simp
      simp only [Nat.reducePow] at hq
      have hl3 : Hid (Sofar ((nums s).take (j + 1)) done ((h * 2 ^ b + c) % 2 ^ (n + b)) (n + b) ∧ gk + j = s.size) := by
        rw [Nat.mod_eq_of_lt hx]; exact hl2
      clear hl hk hl2 hcl hh hx HP
      generalize h * 2 ^ b = q at *
      generalize q + c = x at *
      obtain ⟨wo, hwo⟩ : ∃ wo : World, wo = wr := ⟨_, rfl⟩
      subst hwo
      obtain ⟨go, hgo⟩ : ∃ go : Nat, go = gk := ⟨_, rfl⟩
      subst hgo
      go_wp2_with fail
      refine Calls.mono (hC.out _) ?_
      rintro e w1 ⟨rfl, rfl⟩
      go_wp2
      clear hC hor hsh hq hix hyb
      have hsz0 := hB.size
      go_loopg [3, 5] (n + b) (fun k v nv wr => ∃ (m : Nat) (dn : List Nat), nv = .int .i64 m ∧ k = m ∧ m ≤ 17 ∧ wr.ownsRow w.heap.size 5 1 v dn.length (cellsOf dn) ∧ Below w.heap.size w wr ∧ Hid (Sofar ((nums s).take (j + 1)) dn (x % 2 ^ m) m))
      case atStart => exact ⟨n + b, done, by simp, rfl, by omega, hown, hB, hl3.out.1⟩
      case round =>
        obtain ⟨m, dn, rfl, hkm, hm, hown1, hB1, hl⟩ := hrel
        have hdn : dn.length ≤ 2000000 := by
          have h1 := sofar_len _ _ _ _ hl.out
          have h2 : ((nums s).take (j + 1)).length ≤ (nums s).length := by rw [List.length_take]; omega
          rw [nums_length] at h2
          omega
        clear hown hB hdl
        by_cases h8 : 8 ≤ m
        · have hdiv : (x : Int) / 2 ^ (m - 8) = ((x / 2 ^ (m - 8) : Nat) : Int) := by simp
          have hsf : Hid (Sofar ((nums s).take (j + 1)) (dn ++ [x / 2 ^ (m - 8) % 256]) (x % 2 ^ (m - 8)) (m - 8) ∧ gk = m) := ⟨sofar_byte _ _ _ _ hl.out h8, hkm⟩
          have hge : ∀ g, u3.ownBlock = some g → w.heap.size ≤ g := fun g hg => (hown1.lt g hg).1
          have hsz := hB1.size
          generalize x / 2 ^ (m - 8) = d at *
          clear hl hkm hl3
          go_wp2_with (at_builtin; refine wpList_append_own _ rfl _ _ 32 rfl w.heap.size 5 i5 (.int .u8 0) 1 1 Try.underlying32 hi5 hz0 hz1 hz2 rfl (by decide) _ _ _ rfl (hown1.alloc _) ⟨wr.heap.size, 0, none⟩ 1 1 [.int .u8 ((d : Int) % 256)] rfl rfl ?c1 ?c2 ?c3 ?c4 ?c5 ?_)
          case c1 => exact news_one wr _
          case c2 => exact one_cell _
          case c3 => unfold maxLen; omega
          case c4 => omega
          case c5 => simp; omega
          intro v2 w2 hown2 hgrow _
          have hB2 : Below w.heap.size w w2 := (hB1.alloc hsz _).grown hgrow (by simp; omega) (fun k hk => hge k hk)
          have HO : Hid (w2.ownsRow w.heap.size 5 1 v2 (dn ++ [d % 256]).length (cellsOf (dn ++ [d % 256]))) := by
            have := hown2
            simpa [cellsOf, Hid] using this
          clear hown2 hgrow hown1 hge
          go_wp2
          obtain ⟨hd, hk⟩ := hsf.out
          go_roundg (m - 8)
          case measure => omega
          case rel => exact ⟨m - 8, dn ++ [d % 256], by simp; omega, rfl, by omega, HO.out, hB2, hd⟩
        · have hand := and_ones x m (by omega) (by omega)
          have hxm : x % 2 ^ m < 2 ^ m := Nat.mod_lt _ (Nat.two_pow_pos m)
          have HF : Hid (Sofar ((nums s).take (j + 1)) dn (x % 2 ^ m) m ∧ go + j = s.size ∧ x % 2 ^ m < 2 ^ m) := ⟨hl.out, hl3.out.2, hxm⟩
          have hO1 : Hid (∀ w, Calls Try.prog 18 #[.int .i64 (m : Int)] w fun e w' => e = .returned (.int .i64 ((2 ^ m - 1 : Nat) : Int)) ∧ w = w') := fun w => hO.out m w (by omega)
          clear hl hl3 hkm hxm
          generalize 2 ^ m - 1 = o at *
          generalize x % 2 ^ m = hh at *
          go_wp2_with fail
          refine Calls.mono (hO1.out _) ?_
          rintro e w1 ⟨rfl, rfl⟩
          go_wp2
          obtain ⟨h1, h2, h3⟩ := HF.out
          go_roundg (go - 1)
          case measure => omega
          case rel => exact ⟨j + 1, hh, m, dn, by simp, rfl, rfl, by omega, by omega, h3, hown1, hB1, hdn, h1⟩
    · have h1 := hl.out
      rw [nums_all s j hj] at h1
      by_cases hn0 : n = 0
      · subst hn0
        have : h = 0 := by simpa using hh
        subst this
        obtain rfl : done = P := (sofar_end _ _ h1).trans HP.out
        have hconv := conv_own wr w.heap.size _ _ done _ hown rfl
        clear HP h1 hl hown hh hk
        go_wp2
        go_ret
        exact ⟨rfl, hB⟩
      · have hend := (sofar_pad _ _ _ _ h1 hn (by omega) hh).trans HP.out
        have hq := shift_lt h (8 - n) n 8 hh (by omega)
        simp only [Nat.reducePow] at hq
        have hor := or_cat h (8 - n) (2 ^ (8 - n) - 1) (ones_lt _) (by omega) (by omega)
        have hsh : (h : Int) * 2 ^ (8 - n) = ((h * 2 ^ (8 - n) : Nat) : Int) := by simp
        have hlt : h * 2 ^ (8 - n) + (2 ^ (8 - n) - 1) < 256 := by
          have := cat_lt h _ n (8 - n) hh (ones_lt (8 - n))
          rw [show n + (8 - n) = 8 by omega] at this
          exact this
        have hO1 : Hid (∀ w, Calls Try.prog 18 #[.int .i64 (8 - (n : Int))] w fun e w' => e = .returned (.int .i64 ((2 ^ (8 - n) - 1 : Nat) : Int)) ∧ w = w') := by
          intro w
          have := hO.out (8 - n) w (by omega)
          rw [show ((8 - n : Nat) : Int) = 8 - (n : Int) by omega] at this
          exact this
        have hshift := shl_nat h (8 - (n : Int)) (8 - n) (by omega) (by omega) hq
        have hwrap : IntKind.i64.wrap (8 - (n : Int)) = 8 - (n : Int) := by simp [IntKind.wrap, IntKind.bits, IntKind.signed]; omega
        have hge : ∀ g, u3.ownBlock = some g → w.heap.size ≤ g := fun g hg => (hown.lt g hg).1
        have hsz := hB.size
        have HE : Hid (done ++ [h * 2 ^ (8 - n) + (2 ^ (8 - n) - 1)] = P) := hend
        clear hend h1 hl HP hk hh
        generalize h * 2 ^ (8 - n) = q at *
        generalize 2 ^ (8 - n) - 1 = o at *
        generalize q + o = x at *
        go_wp2
        have HV : Hid (IntKind.u8.wrap (bits BinOp.or IntKind.i64 (IntKind.i64.wrap (q : Int)) (o : Int)) = (x : Int)) := by
          show _ = _
          have e1 : IntKind.i64.wrap (q : Int) = q := by simp [IntKind.wrap, IntKind.bits, IntKind.signed]; omega
          rw [e1, hor]
          simp [IntKind.wrap, IntKind.bits, IntKind.signed]; omega
        clear hor
        go_region_law (first | (go_simp; go_at_call 18; refine Calls.mono (hO1.out _) ?_; rintro e w1 ⟨rfl, rfl⟩) | (refine step_append_own rfl (.tmp 47) (.tmp 57) 32 rfl w.heap.size 5 i5 (.int .u8 0) 1 1 Try.underlying32 hi5 hz0 hz1 hz2 rfl (by decide) u3 done.length (cellsOf done) (by simp [Act.eval]) (hown.alloc _).drew ⟨wr.heap.size, 0, none⟩ 1 1 [.int .u8 (IntKind.u8.wrap (bits BinOp.or IntKind.i64 (IntKind.i64.wrap (q : Int)) (o : Int)))] (by simp [Act.eval]) rfl (news_one wr _) (one_cell _) (by unfold maxLen; omega) (by omega) (by simp; omega) ?_; intro v2 w2 hown2 hgrow))
        have hB2 : Below w.heap.size w w2 := ((hB.alloc hsz _).drew).grown hgrow (by simp; omega) (fun k hk => hge k hk)
        rw [HV.out] at hown2
        have hconv := conv_own w2 w.heap.size v2 _ (done ++ [x]) _ hown2 (by simp [cellsOf])
        obtain rfl := HE.out
        clear hown2 hgrow hown hge HV HE
        go_wp2
        go_ret
        exact ⟨rfl, hB2⟩
end Go.Proofs.Ytnaheinebhcimaa
