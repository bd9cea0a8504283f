/-
  The reference's Squeeze.
-/
import Derived.Test.YtnaheinebhcimaaSRef
namespace Go.Proofs.Ytnaheinebhcimaa
open Go.RowKit
attribute [local irreducible] bitsN bitsV code nb val8

theorem pow_facts (t : Nat) (h : t ≤ 17) : 1 ≤ (2 : Int) ^ t ∧ (2 : Int) ^ t ≤ 131072 ∧ (2 : Int) ^ t - 1 = ((2 ^ t - 1 : Nat) : Int) := by
  have h1 : 1 ≤ 2 ^ t := Nat.one_le_two_pow
  have h2 : 2 ^ t ≤ 2 ^ 17 := Nat.pow_le_pow_right (by decide) h
  have e : (2 : Int) ^ t = ((2 ^ t : Nat) : Int) := by simp
  simp only [Nat.reducePow] at h2
  rw [e]
  omega

set_option maxRecDepth 100000 in
set_option maxHeartbeats 4000000 in
theorem refput_ok (s : ByteArray) (w : World) (hs : s.size ≤ 1000000) : Calls Try.prog 13 #[.string s] w fun e w' => e = .returned (.string (str (putL (nums s)))) ∧ Below w.heap.size w w' := by
  obtain ⟨i5, hi5, hz0, hz1, hz2⟩ := info_parts info5
  generalize hP : putL (nums s) = P
  have HP : Hid (putL (nums s) = P) := hP
  clear hP
  go_enter Try.func13, Try.ntmps13
  go_wp2
  go_loopg [3, 4, 5, 6] s.size (fun k v hv nv i wr => ∃ (j h n : Nat) (done : List Nat), i = .int .i64 j ∧ hv = .int .i64 h ∧ nv = .int .i64 n ∧ k + j = s.size ∧ n < 8 ∧ h < 2 ^ n ∧ wr.ownsRow w.heap.size 5 1 v done.length (cellsOf done) ∧ Below w.heap.size w wr ∧ done.length ≤ 2000000 ∧ Hid (Sofar ((nums s).take j) done h n))
  case atStart => exact ⟨0, 0, 0, [], rfl, rfl, rfl, rfl, by omega, by simp, World.ownsRow_nil w _ _ _, Below.refl _ _, by simp, sofar_nil⟩
  case round =>
    obtain ⟨j, h, n, done, rfl, rfl, rfl, hk, hn, hh, hown, hB, hdl, hl⟩ := hrel
    by_cases hj : j < s.size
    · have hix := index_at s j hj
      have hyb := UInt8.toNat_lt (s[j]'hj)
      have hC : Hid (∀ w, Calls Try.prog 22 #[.int .u8 ((s[j]'hj).toNat : Int)] w fun e w' => e = .returned (.tuple #[.int .i64 (code (s[j]'hj).toNat : Int), .int .i64 (nb (s[j]'hj).toNat : Int)]) ∧ w = w') := fun w => refcode_ok _ w hyb
      have hl2 : Hid (Sofar ((nums s).take (j + 1)) done (h * 2 ^ nb (s[j]'hj).toNat + code (s[j]'hj).toNat) (n + nb (s[j]'hj).toNat) ∧ gk + j = s.size) := ⟨by rw [nums_take_snoc s j hj]; exact sofar_code _ _ _ _ _ hl.out, hk⟩
      have hnb := nb_bounds (s[j]'hj).toNat
      have hcl := code_lt _ hyb
      generalize (s[j]'hj).toNat = y at *
      generalize nb y = b at *
      generalize code y = c at *
      have hq := shift_lt h b n 17 hh (by omega)
      have hor := or_cat h b c hcl (by simp at hq; omega) (by omega)
      have hx := cat_lt h c n b hh hcl
      have hx17 : h * 2 ^ b + c < 131072 := by
        have : 2 ^ (n + b) ≤ 2 ^ 17 := Nat.pow_le_pow_right (by decide) (by omega)
        simp at this; omega
      have hsh : (h : Int) * 2 ^ b = ((h * 2 ^ b : Nat) : Int) := by simp
      simp only [Nat.reducePow] at hq
      have hl3 : Hid (Sofar ((nums s).take (j + 1)) done (h * 2 ^ b + c) (n + b) ∧ gk + j = s.size ∧ h * 2 ^ b + c < 2 ^ (n + b)) := ⟨hl2.out.1, hl2.out.2, hx⟩
      clear hl hk hl2 hcl hh hx HP
      generalize h * 2 ^ b = q at *
      generalize q + c = x at *
      obtain ⟨wo, hwo⟩ : ∃ wo : World, wo = wr := ⟨_, rfl⟩
      subst hwo
      obtain ⟨go, hgo⟩ : ∃ go : Nat, go = gk := ⟨_, rfl⟩
      subst hgo
      go_wp2_with fail
      refine Calls.mono (hC.out _) ?_
      rintro e w1 ⟨rfl, rfl⟩
      go_wp2
      clear hC hor hsh hq hix hyb
      go_loopg [3, 4, 5] (n + b) (fun k v hv nv wr => ∃ (m x : Nat) (dn : List Nat), hv = .int .i64 x ∧ nv = .int .i64 m ∧ k = m ∧ m ≤ 17 ∧ x < 131072 ∧ wr.ownsRow w.heap.size 5 1 v dn.length (cellsOf dn) ∧ Below w.heap.size w wr ∧ Hid (Sofar ((nums s).take (j + 1)) dn x m) ∧ Hid (x < 2 ^ m))
      case atStart => exact ⟨n + b, x, done, rfl, by simp, rfl, by omega, hx17, hown, hB, hl3.out.1, hl3.out.2.2⟩
      case round =>
        clear hx17
        obtain ⟨m, x, dn, rfl, rfl, hkm, hm, hx17, hown1, hB1, hl, hxm⟩ := hrel
        have hdn : dn.length ≤ 2000000 := by
          have h1 := sofar_len _ _ _ _ hl.out
          have h2 : ((nums s).take (j + 1)).length ≤ (nums s).length := by rw [List.length_take]; omega
          rw [nums_length] at h2
          omega
        clear hown hB hdl
        by_cases h8 : 8 ≤ m
        · obtain ⟨t, rfl⟩ : ∃ t, m = t + 8 := ⟨m - 8, by omega⟩
          have hsf : Hid (Sofar ((nums s).take (j + 1)) (dn ++ [x / 2 ^ t % 256]) (x % 2 ^ t) t ∧ gk = t + 8 ∧ x % 2 ^ t < 2 ^ t) := by
            have := sofar_byte ((nums s).take (j + 1)) dn x (t + 8) (by rw [Nat.mod_eq_of_lt hxm.out]; exact hl.out) (by omega)
            rw [show t + 8 - 8 = t by omega] at this
            exact ⟨this, hkm, Nat.mod_lt _ (Nat.two_pow_pos t)⟩
          have hdiv : (x : Int) / 2 ^ t = ((x / 2 ^ t : Nat) : Int) := by simp
          obtain ⟨hp1, hp2, hp3⟩ := pow_facts t (by omega)
          have hand := and_ones x t (by omega) (by omega)
          rw [← hp3] at hand
          have hxr : x % 2 ^ t ≤ x := Nat.mod_le _ _
          have hge : ∀ g, u3.ownBlock = some g → w.heap.size ≤ g := fun g hg => (hown1.lt g hg).1
          have hsz := hB1.size
          generalize x / 2 ^ t = d at *
          generalize x % 2 ^ t = r at *
          clear hl hkm hl3 hxm hp3
          go_wp2_with (at_builtin; refine wpList_append_own _ rfl _ _ 32 rfl w.heap.size 5 i5 (.int .u8 0) 1 1 Try.underlying32 hi5 hz0 hz1 hz2 rfl (by decide) _ _ _ rfl (hown1.alloc _) ⟨wr.heap.size, 0, none⟩ 1 1 [.int .u8 ((d : Int) % 256)] rfl rfl ?c1 ?c2 ?c3 ?c4 ?c5 ?_)
          case c1 => exact news_one wr _
          case c2 => exact one_cell _
          case c3 => unfold maxLen; omega
          case c4 => omega
          case c5 => simp; omega
          intro v2 w2 hown2 hgrow _
          have hB2 : Below w.heap.size w w2 := (hB1.alloc hsz _).grown hgrow (by simp; omega) (fun k hk => hge k hk)
          have HO : Hid (w2.ownsRow w.heap.size 5 1 v2 (dn ++ [d % 256]).length (cellsOf (dn ++ [d % 256]))) := by
            have := hown2
            simpa [cellsOf, Hid] using this
          clear hown2 hgrow hown1 hge
          go_wp2
          obtain ⟨hd, hk, hr⟩ := hsf.out
          go_roundg t
          case measure => omega
          case rel => exact ⟨t, r, dn ++ [d % 256], by simp, by simp, rfl, by omega, by omega, HO.out, hB2, hd, hr⟩
        · have HF : Hid (Sofar ((nums s).take (j + 1)) dn x m ∧ go + j = s.size ∧ x < 2 ^ m) := ⟨hl.out, hl3.out.2.1, hxm.out⟩
          clear hl hl3 hkm hxm
          go_wp2
          obtain ⟨h1, h2, h3⟩ := HF.out
          go_roundg (go - 1)
          case measure => omega
          case rel => exact ⟨j + 1, x, m, dn, by simp, rfl, rfl, by omega, by omega, h3, hown1, hB1, hdn, h1⟩
    · have h1 := hl.out
      rw [nums_all s j hj] at h1
      by_cases hn0 : n = 0
      · subst hn0
        have : h = 0 := by simpa using hh
        subst this
        obtain rfl : done = P := (sofar_end _ _ h1).trans HP.out
        have hconv := conv_own wr w.heap.size _ _ done _ hown rfl
        clear HP h1 hl hown hh hk
        go_wp2
        go_ret
        exact ⟨rfl, hB⟩
      · obtain ⟨u, hu, hnu⟩ : ∃ u, 8 - n = u ∧ n + u = 8 := ⟨8 - n, rfl, by omega⟩
        have hend := (sofar_pad _ _ _ _ h1 hn (by omega) hh).trans HP.out
        rw [hu] at hend
        have hq := shift_lt h u n 8 hh (by omega)
        simp only [Nat.reducePow] at hq
        have hor := or_cat h u (2 ^ u - 1) (ones_lt _) (by omega) (by omega)
        have hsh : (h : Int) * 2 ^ u = ((h * 2 ^ u : Nat) : Int) := by simp
        have hlt : h * 2 ^ u + (2 ^ u - 1) < 256 := by
          have := cat_lt h _ n u hh (ones_lt u)
          rw [hnu] at this
          exact this
        obtain ⟨hp1, hp2, hp3⟩ := pow_facts u (by omega)
        rw [← hp3] at hor
        have hsub : (8 : Int) - (n : Int) = (u : Int) := by omega
        have hge : ∀ g, u3.ownBlock = some g → w.heap.size ≤ g := fun g hg => (hown.lt g hg).1
        have hsz := hB.size
        have HE : Hid (done ++ [h * 2 ^ u + (2 ^ u - 1)] = P) := hend
        clear hend h1 hl HP hk hh hp3 hu
        generalize h * 2 ^ u = q at *
        generalize q + (2 ^ u - 1) = x at *
        go_wp2_with (at_builtin; refine wpList_append_own _ rfl _ _ 32 rfl w.heap.size 5 i5 (.int .u8 0) 1 1 Try.underlying32 hi5 hz0 hz1 hz2 rfl (by decide) _ _ _ rfl (hown.alloc _) ⟨wr.heap.size, 0, none⟩ 1 1 [.int .u8 (x : Int)] rfl rfl ?c1 ?c2 ?c3 ?c4 ?c5 ?_)
        case c1 => exact news_one wr _
        case c2 => exact one_cell _
        case c3 => unfold maxLen; omega
        case c4 => omega
        case c5 => simp; omega
        intro v2 w2 hown2 hgrow _
        have hB2 : Below w.heap.size w w2 := (hB.alloc hsz _).grown hgrow (by simp; omega) (fun k hk => hge k hk)
        have hconv := conv_own w2 w.heap.size v2 _ (done ++ [x]) _ hown2 (by simp [cellsOf])
        obtain rfl := HE.out
        clear hown2 hgrow hown hge HE
        go_wp2
        go_ret
        exact ⟨rfl, hB2⟩
end Go.Proofs.Ytnaheinebhcimaa
