/-
  Package squeeze: Get.
-/
import Derived.Test.YtnaheinebhcimaaSPut
namespace Go.Proofs.Ytnaheinebhcimaa
open Go.RowKit
attribute [local irreducible] bitsN bitsV code nb val8 lenN byteN

def got (o : Option (List Nat)) : Value :=
  match o with
  | none => .tuple #[.string ⟨#[]⟩, .int .i64 3]
  | some l => .tuple #[.string (str l), .int .i64 0]

/-- What is still to be read, behind what was. -/
def Reads (g : Option (List Nat)) (rest done : List Nat) (h n : Nat) : Prop := g = (dec (n + 8 * rest.length) (h * 2 ^ (8 * rest.length) + val8 rest)).map (done ++ ·)
theorem reads_start (b : List Nat) : Reads (getL b) b [] 0 0 := by
  unfold Reads getL
  simp
theorem val8_cons (y : Nat) (rest : List Nat) : val8 (y :: rest) = y * 2 ^ (8 * rest.length) + val8 rest := by rw [val8]
theorem val8_nil : val8 [] = 0 := by rw [val8]
theorem reads_byte (g : Option (List Nat)) (y : Nat) (rest done : List Nat) (h n : Nat) (hr : Reads g (y :: rest) done h n) : Reads g rest done (h * 256 + y) (n + 8) := by
  unfold Reads at hr ⊢
  rw [hr, val8_cons]
  have e : 8 * (y :: rest).length = 8 + 8 * rest.length := by simp; omega
  rw [e, Nat.pow_add, Nat.add_mul, show (2 : Nat) ^ 8 = 256 from rfl, ← Nat.mul_assoc]
  have e2 : n + (8 + 8 * rest.length) = n + 8 + 8 * rest.length := by omega
  have e3 : h * 256 * 2 ^ (8 * rest.length) + (y * 2 ^ (8 * rest.length) + val8 rest) = h * 256 * 2 ^ (8 * rest.length) + y * 2 ^ (8 * rest.length) + val8 rest := by omega
  rw [e2, e3]
theorem reads_bad (g : Option (List Nat)) (rest done : List Nat) (h n : Nat) (hb : ∀ x ∈ rest, x < 256) (hr : Reads g rest done h n) (hl : lenN n h ≤ n) (h975 : 975 < h / 2 ^ (n - lenN n h)) : g = none := by
  unfold Reads at hr
  rw [hr, dec_step n h _ _ (val8_lt rest hb) hl, if_pos h975]
  rfl
theorem reads_code (g : Option (List Nat)) (rest done : List Nat) (h n : Nat) (hb : ∀ x ∈ rest, x < 256) (hr : Reads g rest done h n) (hl : lenN n h ≤ n) (h975 : ¬ 975 < h / 2 ^ (n - lenN n h)) : Reads g rest (done ++ [byteN (h / 2 ^ (n - lenN n h))]) (h % 2 ^ (n - lenN n h)) (n - lenN n h) := by
  unfold Reads at hr ⊢
  rw [hr, dec_step n h _ _ (val8_lt rest hb) hl, if_neg h975, Option.map_map]
  congr 1
  funext l
  simp
theorem reads_end (g : Option (List Nat)) (done : List Nat) (h n : Nat) (hr : Reads g [] done h n) (hl : n < lenN n h) : g = if 8 ≤ n ∨ h ≠ 2 ^ n - 1 then none else some done := by
  unfold Reads at hr
  rw [val8_nil] at hr
  simp only [List.length_nil, Nat.mul_zero, Nat.add_zero, Nat.pow_zero, Nat.mul_one] at hr
  rw [hr, dec_end n h hl]
  split <;> simp

set_option maxRecDepth 100000 in
set_option maxHeartbeats 4000000 in
theorem get_ok (b : ByteArray) (w : World) (hs : b.size ≤ 1000000) : Calls Try.prog 11 #[.string b] w fun e w' => e = .returned (got (getL (nums b))) ∧ Below w.heap.size w w' := by
  obtain ⟨i5, hi5, hz0, hz1, hz2⟩ := info_parts info5
  have hO : Hid (∀ (n : Nat) w, n ≤ 31 → Calls Try.prog 18 #[.int .i64 (n : Int)] w fun e w' => e = .returned (.int .i64 ((2 ^ n - 1 : Nat) : Int)) ∧ w = w') := fun n w h => ones_ok n w h
  have hLn : Hid (∀ (h n : Nat) w, n ≤ 31 → Calls Try.prog 19 #[.int .i64 (h : Int), .int .i64 (n : Int)] w fun e w' => e = .returned (.int .i64 (lenN n h : Int)) ∧ w = w') := fun h n w hn => length_ok h n w hn
  generalize hG : getL (nums b) = g
  have HS : Hid (Reads g (nums b) [] 0 0) := hG ▸ reads_start (nums b)
  clear hG
  have hl0 : 0 < lenN 0 0 := by have := lenN_ge 0 0; omega
  go_enter Try.func11, Try.ntmps11
  go_wp2
  go_loopg [4, 5, 6, 12] b.size (fun k v hv nv i wr => ∃ (j h n : Nat) (done : List Nat), i = .int .i64 j ∧ hv = .int .i64 h ∧ nv = .int .i64 n ∧ k + j = b.size ∧ n ≤ 9 ∧ h < 2 ^ n ∧ wr.ownsRow w.heap.size 5 1 v done.length (cellsOf done) ∧ Below w.heap.size w wr ∧ 5 * done.length + n ≤ 8 * j ∧ Hid (Reads g ((nums b).drop j) done h n) ∧ Hid (n < lenN n h))
  case atStart => exact ⟨0, 0, 0, [], rfl, rfl, rfl, rfl, by omega, by simp, World.ownsRow_nil w _ _ _, Below.refl _ _, by simp, HS.out, hl0⟩
  case round =>
    obtain ⟨j, h, n, done, rfl, rfl, rfl, hk, hn, hh, hown, hB, hdl, hl, hlen⟩ := hrel
    clear HS hl0
    by_cases hj : j < b.size
    · have hix := index_at b j hj
      have hyb := UInt8.toNat_lt (b[j]'hj)
      have hl2 : Hid (Reads g ((nums b).drop (j + 1)) done (h * 256 + (b[j]'hj).toNat) (n + 8) ∧ gk + j = b.size ∧ j < b.size) := ⟨reads_byte _ _ _ _ _ _ (by rw [← nums_drop b j hj]; exact hl.out), hk, hj⟩
      generalize (b[j]'hj).toNat = y at *
      have hh9 : h < 512 := by have : 2 ^ n ≤ 2 ^ 9 := Nat.pow_le_pow_right (by decide) hn; simp at this; omega
      have hor : bits .or .i64 ((h * 256 : Nat) : Int) (y : Int) = ((h * 256 + y : Nat) : Int) := or_cat h 8 y (by simpa using hyb) (by simp; omega) (by omega)
      have hsh : (h : Int) * 256 = ((h * 256 : Nat) : Int) := by simp
      have hx : Hid (h * 256 + y < 2 ^ (n + 8)) := cat_lt h y n 8 hh (by simpa using hyb)
      have hq : h * 256 < 131072 := by omega
      have hx17 : h * 256 + y < 131072 := by omega
      have hL1 : Hid (∀ w, Calls Try.prog 19 #[.int .i64 ((h * 256 + y : Nat) : Int), .int .i64 ((n : Int) + 8)] w fun e w' => e = .returned (.int .i64 (lenN (n + 8) (h * 256 + y) : Int)) ∧ w = w') := fun w => hLn.out _ (n + 8) w (by omega)
      clear hl hk hlen hh hh9
      generalize h * 256 = q at *
      generalize q + y = x at *
      obtain ⟨wo, hwo⟩ : ∃ wo : World, wo = wr := ⟨_, rfl⟩
      subst hwo
      obtain ⟨go, hgo⟩ : ∃ go : Nat, go = gk := ⟨_, rfl⟩
      subst hgo
      go_wp2_with fail
      refine Calls.mono (hL1.out _) ?_
      rintro e w1 ⟨rfl, rfl⟩
      go_wp2
      clear hL1 hor hsh hq hix hyb
      have hsz0 := hB.size
      go_loopg [4, 5, 6, 8] (n + 8) (fun k v hv nv bv wr => ∃ (m x : Nat) (dn : List Nat), hv = .int .i64 x ∧ nv = .int .i64 m ∧ bv = .int .i64 (lenN m x) ∧ k = m ∧ m ≤ 17 ∧ x < 131072 ∧ wr.ownsRow w.heap.size 5 1 v dn.length (cellsOf dn) ∧ Below w.heap.size w wr ∧ 5 * dn.length + m ≤ 8 * (j + 1) ∧ Hid (Reads g ((nums b).drop (j + 1)) dn x m) ∧ Hid (x < 2 ^ m))
      case atStart => exact ⟨n + 8, x, done, rfl, by simp, rfl, rfl, by omega, hx17, hown, hB, by omega, hl2.out.1, hx.out⟩
      case round =>
        clear hx17 hx hown hB hdl
        obtain ⟨m, x, dn, rfl, rfl, rfl, hkm, hm, hx17, hown1, hB1, hdn, hl, hxm⟩ := hrel
        have hLb := lenN_ge m x
        by_cases hle : lenN m x ≤ m
        · have hbytes : ∀ u ∈ (nums b).drop (j + 1), u < 256 := fun u hu => nums_byte b u (List.mem_of_mem_drop hu)
          have hdiv : (x : Int) / 2 ^ (m - lenN m x) = ((x / 2 ^ (m - lenN m x) : Nat) : Int) := by simp
          have hsub : (m : Int) - (lenN m x : Int) = ((m - lenN m x : Nat) : Int) := by omega
          have hcle : x / 2 ^ (m - lenN m x) ≤ x := Nat.div_le_self _ _
          by_cases h975 : 975 < x / 2 ^ (m - lenN m x)
          · obtain rfl := reads_bad _ _ _ _ _ hbytes hl.out hle h975
            clear hl hxm hl2 hkm hbytes
            generalize lenN m x = L at *
            have ht : m - L ≤ 12 := by omega
            generalize m - L = t at *
            generalize x / 2 ^ t = c at *
            go_wp2
            go_ret2
            exact ⟨rfl, hB1⟩
          · have hcode := isCode_of m x hle hxm.out h975
            have hBy : Hid (∀ w, Calls Try.prog 20 #[.int .i64 ((x / 2 ^ (m - lenN m x) : Nat) : Int)] w fun e w' => e = .returned (.int .u8 (byteN (x / 2 ^ (m - lenN m x)) : Int)) ∧ w = w') := fun w => byteOf_ok _ _ w hcode
            have hO1 : Hid (∀ w, Calls Try.prog 18 #[.int .i64 ((m - lenN m x : Nat) : Int)] w fun e w' => e = .returned (.int .i64 ((2 ^ (m - lenN m x) - 1 : Nat) : Int)) ∧ w = w') := fun w => hO.out _ w (by omega)
            have hL1 : Hid (∀ w, Calls Try.prog 19 #[.int .i64 ((x % 2 ^ (m - lenN m x) : Nat) : Int), .int .i64 ((m - lenN m x : Nat) : Int)] w fun e w' => e = .returned (.int .i64 (lenN (m - lenN m x) (x % 2 ^ (m - lenN m x)) : Int)) ∧ w = w') := fun w => hLn.out _ _ w (by omega)
            have hand := and_ones x (m - lenN m x) (by omega) (by omega)
            have HR : Hid (Reads g ((nums b).drop (j + 1)) (dn ++ [byteN (x / 2 ^ (m - lenN m x))]) (x % 2 ^ (m - lenN m x)) (m - lenN m x) ∧ gk = m ∧ x % 2 ^ (m - lenN m x) < 2 ^ (m - lenN m x)) := ⟨reads_code _ _ _ _ _ hbytes hl.out hle h975, hkm, Nat.mod_lt _ (Nat.two_pow_pos _)⟩
            have hxr : x % 2 ^ (m - lenN m x) ≤ x := Nat.mod_le _ _
            have hyb := (byte_is _ _ hcode).1
            have hge : ∀ g, u4.ownBlock = some g → w.heap.size ≤ g := fun g hg => (hown1.lt g hg).1
            have hsz := hB1.size
            clear hl hxm hkm hbytes hcode
            generalize lenN m x = L at *
            have ht : m - L ≤ 12 := by omega
            have hmt : (m - L) + L = m := by omega
            generalize m - L = t at *
            generalize byteN (x / 2 ^ t) = y at *
            generalize x / 2 ^ t = c at *
            generalize x % 2 ^ t = r at *
            generalize 2 ^ t - 1 = o at *
            generalize hL2 : lenN t r = L2 at *
            have HL2 : Hid (lenN t r = L2) := hL2
            clear hL2
            go_wp2_with fail
            refine Calls.mono (hBy.out _) ?_
            rintro e w1 ⟨rfl, rfl⟩
            go_wp2_with (at_builtin; refine wpList_append_own _ rfl _ _ 32 rfl w.heap.size 5 i5 (.int .u8 0) 1 1 Try.underlying32 hi5 hz0 hz1 hz2 rfl (by decide) _ _ _ rfl (hown1.alloc _) ⟨wr.heap.size, 0, none⟩ 1 1 [.int .u8 (y : Int)] rfl rfl ?c1 ?c2 ?c3 ?c4 ?c5 ?_)
            case c1 => exact news_one wr _
            case c2 => exact one_cell _
            case c3 => unfold maxLen; omega
            case c4 => omega
            case c5 => simp; omega
            intro v2 w2 hown2 hgrow _
            have hB2 : Below w.heap.size w w2 := (hB1.alloc hsz _).grown hgrow (by simp; omega) (fun k hk => hge k hk)
            have HO : Hid (w2.ownsRow w.heap.size 5 1 v2 (dn ++ [y]).length (cellsOf (dn ++ [y]))) := by
              have := hown2
              simpa [cellsOf, Hid] using this
            clear hown2 hgrow hown1 hge
            go_wp2_with fail
            refine Calls.mono (hO1.out _) ?_
            rintro e w1 ⟨rfl, rfl⟩
            go_wp2_with fail
            refine Calls.mono (hL1.out _) ?_
            rintro e w1 ⟨rfl, rfl⟩
            go_wp2
            obtain ⟨h1, h2, h3⟩ := HR.out
            go_roundg t
            case measure => omega
            case rel => exact ⟨t, r, dn ++ [y], rfl, rfl, by rw [HL2.out], rfl, by omega, by omega, HO.out, hB2, by simp; omega, h1, h3⟩
        · have HF : Hid (Reads g ((nums b).drop (j + 1)) dn x m ∧ x < 2 ^ m ∧ go + j = b.size ∧ m < lenN m x) := ⟨hl.out, hxm.out, hl2.out.2.1, by omega⟩
          have hm9 : m ≤ 9 := by omega
          clear hl hxm hl2 hkm
          go_wp2
          obtain ⟨h1, h2, h3, h4⟩ := HF.out
          go_roundg (go - 1)
          case measure => omega
          case rel => exact ⟨j + 1, x, m, dn, by simp, rfl, rfl, by omega, hm9, h2, hown1, hB1, hdn, h1, h4⟩
    · have h1 := hl.out
      rw [nums_none b j hj] at h1
      have hg := reads_end _ _ _ _ h1 hlen.out
      have hO1 : Hid (∀ w, Calls Try.prog 18 #[.int .i64 (n : Int)] w fun e w' => e = .returned (.int .i64 ((2 ^ n - 1 : Nat) : Int)) ∧ w = w') := fun w => hO.out _ w (by omega)
      clear hl hlen h1 hk hh
      by_cases h8 : 8 ≤ n
      · rw [if_pos (.inl h8)] at hg
        subst hg
        go_wp2
        go_ret2
        exact ⟨rfl, hB⟩
      · by_cases hne : h = 2 ^ n - 1
        · rw [if_neg (by omega)] at hg
          subst hg
          have hconv := conv_own wr w.heap.size _ _ done _ hown rfl
          rw [← hne] at hO1
          clear hne
          go_wp2_with fail
          refine Calls.mono (hO1.out _) ?_
          rintro e w1 ⟨rfl, rfl⟩
          go_wp2
          go_ret2
          exact ⟨rfl, hB⟩
        · rw [if_pos (.inr hne)] at hg
          subst hg
          generalize 2 ^ n - 1 = o at *
          have hno : ((h : Int) != (o : Int)) = true := by simp; omega
          go_wp2_with fail
          refine Calls.mono (hO1.out _) ?_
          rintro e w1 ⟨rfl, rfl⟩
          go_wp2
          go_ret2
          exact ⟨rfl, hB⟩
end Go.Proofs.Ytnaheinebhcimaa
