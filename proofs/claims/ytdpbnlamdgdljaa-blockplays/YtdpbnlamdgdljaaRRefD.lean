/-
  The reference's Strip.
-/
import Derived.Test.YtdpbnlamdgdljaaRName
import Derived.Test.YtdpbnlamdgdljaaRRefC
namespace Go.Proofs.Ytdpbnlamdgdljaa
open Go.RowKit
attribute [local irreducible] numL byteAt endOf idOf nums str unpadA behind

set_option maxRecDepth 100000 in
set_option maxHeartbeats 1000000 in
theorem rstrip_other (k fl id : Int) (b : ByteArray) (w : World) (h0 : (k != 0) = true) (h1 : (k != 1) = true) :
    Calls Try.prog 47 #[frval ⟨k, fl, id, b⟩] w fun e w' => e = .returned (stripV (b, 0, 0)) ∧ Keeps nobody w w' := by
  go_enter Try.func47, Try.ntmps47
  go_wp2
  exact bodyPost_ret (v := stripV (b, 0, 0)) (by simp [results, Try.results47, go_sem, stripV]) rfl ⟨rfl, (Keeps.refl _ _).alloc _⟩

set_option maxRecDepth 100000 in
set_option maxHeartbeats 1000000 in
theorem rstrip_0 (fl id : Int) (b : ByteArray) (w : World) (hp : (bits .and .i64 fl 8 != 0) = false) :
    Calls Try.prog 47 #[frval ⟨0, fl, id, b⟩] w fun e w' => e = .returned (stripV (behind b 0, b.size - (behind b 0).size, 0)) ∧ Keeps nobody w w' := by
  rw [behind_zero]
  rw [Nat.sub_self]
  generalize hP : bits .and .i64 fl 8 = P at *
  go_enter Try.func47, Try.ntmps47
  go_wp2_with fail
  go_quiet (fail)
  go_wp2
  exact bodyPost_ret (v := stripV (b, 0, 0)) (by simp [results, Try.results47, go_sem, stripV]) rfl ⟨rfl, ((Keeps.refl _ _).alloc _).drewN _⟩

set_option maxRecDepth 100000 in
set_option maxHeartbeats 1000000 in
theorem rstrip_0p_empty (fl id : Int) (b : ByteArray) (w : World) (hp : (bits .and .i64 fl 8 != 0) = true) (hb : b.size = 0) :
    Calls Try.prog 47 #[frval ⟨0, fl, id, b⟩] w fun e w' => e = .returned (stripV (⟨#[]⟩, 0, 11)) ∧ Keeps nobody w w' := by
  obtain rfl := eq_empty_of_size b (by omega)
  clear hb
  generalize hP : bits .and .i64 fl 8 = P at *
  go_enter Try.func47, Try.ntmps47
  go_wp2
  exact bodyPost_ret (v := stripV (⟨#[]⟩, 0, 11)) (by simp [results, Try.results47, go_sem, stripV]) rfl ⟨rfl, (Keeps.refl _ _).alloc _⟩

set_option maxRecDepth 100000 in
set_option maxHeartbeats 1000000 in
theorem rstrip_0p_great (fl id : Int) (b : ByteArray) (w : World) (hs : b.size ≤ 140737488355328) (hp : (bits .and .i64 fl 8 != 0) = true) (hb : 0 < b.size) (hu : b.size < 1 + byteAt b 0) :
    Calls Try.prog 47 #[frval ⟨0, fl, id, b⟩] w fun e w' => e = .returned (stripV (⟨#[]⟩, 0, 11)) ∧ Keeps nobody w w' := by
  have hix : ∀ w, (Instr.index 9 (.string b) (.int .i64 0)).run Try.prog w = .ok (.int .u8 (byteAt b 0 : Int)) w := fun w => by rw [← byteAt_get b 0 hb]; exact index_at b 0 hb w
  have hyb := byteAt_lt b 0
  have hemp := isEmpty_of_size b hb
  generalize byteAt b 0 = y at *
  have hg : ((b.size : Int) - 1 < (y : Int)) = True := by simp; omega
  generalize hP : bits .and .i64 fl 8 = P at *
  go_enter Try.func47, Try.ntmps47
  go_wp2
  exact bodyPost_ret (v := stripV (⟨#[]⟩, 0, 11)) (by simp [results, Try.results47, go_sem, stripV]) rfl ⟨rfl, (Keeps.refl _ _).alloc _⟩

set_option maxRecDepth 100000 in
set_option maxHeartbeats 1000000 in
theorem rstrip_0p (fl id : Int) (b : ByteArray) (w : World) (hs : b.size ≤ 140737488355328) (hp : (bits .and .i64 fl 8 != 0) = true) (c : ByteArray) (hu : unpadA b = some c) :
    Calls Try.prog 47 #[frval ⟨0, fl, id, b⟩] w fun e w' => e = .returned (stripV (behind c 0, b.size - (behind c 0).size, 0)) ∧ Keeps nobody w w' := by
  have hcs := unpadA_size b c hu
  have hne : ¬ (b.size = 0 ∨ b.size < 1 + byteAt b 0) := fun h => by unfold unpadA at hu; rw [if_pos h] at hu; cases hu
  have hcE : b.extract 1 (b.size - byteAt b 0) = c := by unfold unpadA at hu; rw [if_neg hne] at hu; simpa using hu
  have hb : 0 < b.size := by omega
  have hix : ∀ w, (Instr.index 9 (.string b) (.int .i64 0)).run Try.prog w = .ok (.int .u8 (byteAt b 0 : Int)) w := fun w => by rw [← byteAt_get b 0 hb]; exact index_at b 0 hb w
  have hyb := byteAt_lt b 0
  have hemp := isEmpty_of_size b hb
  clear hu
  generalize byteAt b 0 = y at *
  have hg : ((b.size : Int) - 1 < (y : Int)) = False := by simp; omega
  have hm : (b.size : Int) - (y : Int) = ((b.size - y : Nat) : Int) := by omega
  have hsl0 : ∀ w, (Instr.slice 9 (.string b) (some (.int .i64 1)) (some (.int .i64 ((b.size - y : Nat) : Int))) none).run Try.prog w = .ok (.string c) w := fun w => by rw [← hcE]; exact slice_both b 1 (b.size - y) (by omega) (by omega) w
  generalize b.size - y = m at *
  clear hcE hne
  rw [behind_zero]
  have hsub : (b.size : Int) - (c.size : Int) = ((b.size - c.size : Nat) : Int) := by omega
  generalize b.size - c.size = r at *
  generalize hP : bits .and .i64 fl 8 = P at *
  go_enter Try.func47, Try.ntmps47
  go_wp2_with fail
  go_quiet (fail)
  go_wp2
  exact bodyPost_ret (v := stripV (c, r, 0)) (by simp [results, Try.results47, go_sem, stripV]) rfl ⟨rfl, ((Keeps.refl _ _).alloc _).drewN _⟩

set_option maxRecDepth 100000 in
set_option maxHeartbeats 1000000 in
theorem rstrip_1 (fl id : Int) (b : ByteArray) (w : World) (hq : (bits .and .i64 fl 32 != 0) = false) (hp : (bits .and .i64 fl 8 != 0) = false) :
    Calls Try.prog 47 #[frval ⟨1, fl, id, b⟩] w fun e w' => e = .returned (stripV (behind b 0, b.size - (behind b 0).size, 0)) ∧ Keeps nobody w w' := by
  rw [behind_zero]
  rw [Nat.sub_self]
  generalize hP : bits .and .i64 fl 8 = P at *
  generalize hQ : bits .and .i64 fl 32 = Q at *
  go_enter Try.func47, Try.ntmps47
  go_wp2_with fail
  go_quiet (fail)
  go_wp2
  exact bodyPost_ret (v := stripV (b, 0, 0)) (by simp [results, Try.results47, go_sem, stripV]) rfl ⟨rfl, ((Keeps.refl _ _).alloc _).drewN _⟩

set_option maxRecDepth 100000 in
set_option maxHeartbeats 1000000 in
theorem rstrip_1p_empty (fl id : Int) (b : ByteArray) (w : World) (hp : (bits .and .i64 fl 8 != 0) = true) (hb : b.size = 0) :
    Calls Try.prog 47 #[frval ⟨1, fl, id, b⟩] w fun e w' => e = .returned (stripV (⟨#[]⟩, 0, 11)) ∧ Keeps nobody w w' := by
  obtain rfl := eq_empty_of_size b (by omega)
  clear hb
  generalize hP : bits .and .i64 fl 8 = P at *
  go_enter Try.func47, Try.ntmps47
  go_wp2
  exact bodyPost_ret (v := stripV (⟨#[]⟩, 0, 11)) (by simp [results, Try.results47, go_sem, stripV]) rfl ⟨rfl, (Keeps.refl _ _).alloc _⟩

set_option maxRecDepth 100000 in
set_option maxHeartbeats 1000000 in
theorem rstrip_1p_great (fl id : Int) (b : ByteArray) (w : World) (hs : b.size ≤ 140737488355328) (hp : (bits .and .i64 fl 8 != 0) = true) (hb : 0 < b.size) (hu : b.size < 1 + byteAt b 0) :
    Calls Try.prog 47 #[frval ⟨1, fl, id, b⟩] w fun e w' => e = .returned (stripV (⟨#[]⟩, 0, 11)) ∧ Keeps nobody w w' := by
  have hix : ∀ w, (Instr.index 9 (.string b) (.int .i64 0)).run Try.prog w = .ok (.int .u8 (byteAt b 0 : Int)) w := fun w => by rw [← byteAt_get b 0 hb]; exact index_at b 0 hb w
  have hyb := byteAt_lt b 0
  have hemp := isEmpty_of_size b hb
  generalize byteAt b 0 = y at *
  have hg : ((b.size : Int) - 1 < (y : Int)) = True := by simp; omega
  generalize hP : bits .and .i64 fl 8 = P at *
  go_enter Try.func47, Try.ntmps47
  go_wp2
  exact bodyPost_ret (v := stripV (⟨#[]⟩, 0, 11)) (by simp [results, Try.results47, go_sem, stripV]) rfl ⟨rfl, (Keeps.refl _ _).alloc _⟩

set_option maxRecDepth 100000 in
set_option maxHeartbeats 1000000 in
theorem rstrip_1p (fl id : Int) (b : ByteArray) (w : World) (hs : b.size ≤ 140737488355328) (hq : (bits .and .i64 fl 32 != 0) = false) (hp : (bits .and .i64 fl 8 != 0) = true) (c : ByteArray) (hu : unpadA b = some c) :
    Calls Try.prog 47 #[frval ⟨1, fl, id, b⟩] w fun e w' => e = .returned (stripV (behind c 0, b.size - (behind c 0).size, 0)) ∧ Keeps nobody w w' := by
  have hcs := unpadA_size b c hu
  have hne : ¬ (b.size = 0 ∨ b.size < 1 + byteAt b 0) := fun h => by unfold unpadA at hu; rw [if_pos h] at hu; cases hu
  have hcE : b.extract 1 (b.size - byteAt b 0) = c := by unfold unpadA at hu; rw [if_neg hne] at hu; simpa using hu
  have hb : 0 < b.size := by omega
  have hix : ∀ w, (Instr.index 9 (.string b) (.int .i64 0)).run Try.prog w = .ok (.int .u8 (byteAt b 0 : Int)) w := fun w => by rw [← byteAt_get b 0 hb]; exact index_at b 0 hb w
  have hyb := byteAt_lt b 0
  have hemp := isEmpty_of_size b hb
  clear hu
  generalize byteAt b 0 = y at *
  have hg : ((b.size : Int) - 1 < (y : Int)) = False := by simp; omega
  have hm : (b.size : Int) - (y : Int) = ((b.size - y : Nat) : Int) := by omega
  have hsl0 : ∀ w, (Instr.slice 9 (.string b) (some (.int .i64 1)) (some (.int .i64 ((b.size - y : Nat) : Int))) none).run Try.prog w = .ok (.string c) w := fun w => by rw [← hcE]; exact slice_both b 1 (b.size - y) (by omega) (by omega) w
  generalize b.size - y = m at *
  clear hcE hne
  rw [behind_zero]
  have hsub : (b.size : Int) - (c.size : Int) = ((b.size - c.size : Nat) : Int) := by omega
  generalize b.size - c.size = r at *
  generalize hP : bits .and .i64 fl 8 = P at *
  generalize hQ : bits .and .i64 fl 32 = Q at *
  go_enter Try.func47, Try.ntmps47
  go_wp2_with fail
  go_quiet (fail)
  go_wp2
  exact bodyPost_ret (v := stripV (c, r, 0)) (by simp [results, Try.results47, go_sem, stripV]) rfl ⟨rfl, ((Keeps.refl _ _).alloc _).drewN _⟩

set_option maxRecDepth 100000 in
set_option maxHeartbeats 1000000 in
theorem rstrip_1q (fl id : Int) (b : ByteArray) (w : World) (hs : b.size ≤ 140737488355328) (hq : (bits .and .i64 fl 32 != 0) = true) (hp : (bits .and .i64 fl 8 != 0) = false) (hn : 5 ≤ b.size) :
    Calls Try.prog 47 #[frval ⟨1, fl, id, b⟩] w fun e w' => e = .returned (stripV (behind b 5, b.size - (behind b 5).size, 0)) ∧ Keeps nobody w w' := by
  have hsl : ∀ w, (Instr.slice 9 (.string b) (some (.int .i64 5)) none none).run Try.prog w = .ok (.string (behind b 5)) w := fun w => slice_behind b 5 (by omega) w
  have hd := behind_size b 5
  have hsub : (b.size : Int) - ((behind b 5).size : Int) = ((b.size - (behind b 5).size : Nat) : Int) := by omega
  have hle : (behind b 5).size ≤ b.size := by omega
  clear hd
  generalize b.size - (behind b 5).size = r at *
  generalize behind b 5 = D at *
  generalize hP : bits .and .i64 fl 8 = P at *
  generalize hQ : bits .and .i64 fl 32 = Q at *
  go_enter Try.func47, Try.ntmps47
  go_wp2_with fail
  go_quiet (fail)
  go_wp2
  exact bodyPost_ret (v := stripV (D, r, 0)) (by simp [results, Try.results47, go_sem, stripV]) rfl ⟨rfl, ((Keeps.refl _ _).alloc _).drewN _⟩

set_option maxRecDepth 100000 in
set_option maxHeartbeats 1000000 in
theorem rstrip_1q_short (fl id : Int) (b : ByteArray) (w : World) (hs : b.size ≤ 140737488355328) (hq : (bits .and .i64 fl 32 != 0) = true) (hp : (bits .and .i64 fl 8 != 0) = false) (hn : b.size < 5) :
    Calls Try.prog 47 #[frval ⟨1, fl, id, b⟩] w fun e w' => e = .returned (stripV (⟨#[]⟩, 0, 5)) ∧ Keeps nobody w w' := by
  generalize hP : bits .and .i64 fl 8 = P at *
  generalize hQ : bits .and .i64 fl 32 = Q at *
  go_enter Try.func47, Try.ntmps47
  go_wp2
  exact bodyPost_ret (v := stripV (⟨#[]⟩, 0, 5)) (by simp [results, Try.results47, go_sem, stripV]) rfl ⟨rfl, (Keeps.refl _ _).alloc _⟩

set_option maxRecDepth 100000 in
set_option maxHeartbeats 1000000 in
theorem rstrip_1pq (fl id : Int) (b : ByteArray) (w : World) (hs : b.size ≤ 140737488355328) (hq : (bits .and .i64 fl 32 != 0) = true) (hp : (bits .and .i64 fl 8 != 0) = true) (c : ByteArray) (hu : unpadA b = some c) (hn : 5 ≤ c.size) :
    Calls Try.prog 47 #[frval ⟨1, fl, id, b⟩] w fun e w' => e = .returned (stripV (behind c 5, b.size - (behind c 5).size, 0)) ∧ Keeps nobody w w' := by
  have hcs := unpadA_size b c hu
  have hne : ¬ (b.size = 0 ∨ b.size < 1 + byteAt b 0) := fun h => by unfold unpadA at hu; rw [if_pos h] at hu; cases hu
  have hcE : b.extract 1 (b.size - byteAt b 0) = c := by unfold unpadA at hu; rw [if_neg hne] at hu; simpa using hu
  have hb : 0 < b.size := by omega
  have hix : ∀ w, (Instr.index 9 (.string b) (.int .i64 0)).run Try.prog w = .ok (.int .u8 (byteAt b 0 : Int)) w := fun w => by rw [← byteAt_get b 0 hb]; exact index_at b 0 hb w
  have hyb := byteAt_lt b 0
  have hemp := isEmpty_of_size b hb
  clear hu
  generalize byteAt b 0 = y at *
  have hg : ((b.size : Int) - 1 < (y : Int)) = False := by simp; omega
  have hm : (b.size : Int) - (y : Int) = ((b.size - y : Nat) : Int) := by omega
  have hsl0 : ∀ w, (Instr.slice 9 (.string b) (some (.int .i64 1)) (some (.int .i64 ((b.size - y : Nat) : Int))) none).run Try.prog w = .ok (.string c) w := fun w => by rw [← hcE]; exact slice_both b 1 (b.size - y) (by omega) (by omega) w
  generalize b.size - y = m at *
  clear hcE hne
  have hsl : ∀ w, (Instr.slice 9 (.string c) (some (.int .i64 5)) none none).run Try.prog w = .ok (.string (behind c 5)) w := fun w => slice_behind c 5 (by omega) w
  have hd := behind_size c 5
  have hsub : (b.size : Int) - ((behind c 5).size : Int) = ((b.size - (behind c 5).size : Nat) : Int) := by omega
  have hle : (behind c 5).size ≤ b.size := by omega
  clear hd
  generalize b.size - (behind c 5).size = r at *
  generalize behind c 5 = D at *
  generalize hP : bits .and .i64 fl 8 = P at *
  generalize hQ : bits .and .i64 fl 32 = Q at *
  go_enter Try.func47, Try.ntmps47
  go_wp2_with fail
  go_quiet (fail)
  go_wp2
  exact bodyPost_ret (v := stripV (D, r, 0)) (by simp [results, Try.results47, go_sem, stripV]) rfl ⟨rfl, ((Keeps.refl _ _).alloc _).drewN _⟩

set_option maxRecDepth 100000 in
set_option maxHeartbeats 1000000 in
theorem rstrip_1pq_short (fl id : Int) (b : ByteArray) (w : World) (hs : b.size ≤ 140737488355328) (hq : (bits .and .i64 fl 32 != 0) = true) (hp : (bits .and .i64 fl 8 != 0) = true) (c : ByteArray) (hu : unpadA b = some c) (hn : c.size < 5) :
    Calls Try.prog 47 #[frval ⟨1, fl, id, b⟩] w fun e w' => e = .returned (stripV (⟨#[]⟩, 0, 5)) ∧ Keeps nobody w w' := by
  have hcs := unpadA_size b c hu
  have hne : ¬ (b.size = 0 ∨ b.size < 1 + byteAt b 0) := fun h => by unfold unpadA at hu; rw [if_pos h] at hu; cases hu
  have hcE : b.extract 1 (b.size - byteAt b 0) = c := by unfold unpadA at hu; rw [if_neg hne] at hu; simpa using hu
  have hb : 0 < b.size := by omega
  have hix : ∀ w, (Instr.index 9 (.string b) (.int .i64 0)).run Try.prog w = .ok (.int .u8 (byteAt b 0 : Int)) w := fun w => by rw [← byteAt_get b 0 hb]; exact index_at b 0 hb w
  have hyb := byteAt_lt b 0
  have hemp := isEmpty_of_size b hb
  clear hu
  generalize byteAt b 0 = y at *
  have hg : ((b.size : Int) - 1 < (y : Int)) = False := by simp; omega
  have hm : (b.size : Int) - (y : Int) = ((b.size - y : Nat) : Int) := by omega
  have hsl0 : ∀ w, (Instr.slice 9 (.string b) (some (.int .i64 1)) (some (.int .i64 ((b.size - y : Nat) : Int))) none).run Try.prog w = .ok (.string c) w := fun w => by rw [← hcE]; exact slice_both b 1 (b.size - y) (by omega) (by omega) w
  generalize b.size - y = m at *
  clear hcE hne
  generalize hP : bits .and .i64 fl 8 = P at *
  generalize hQ : bits .and .i64 fl 32 = Q at *
  go_enter Try.func47, Try.ntmps47
  go_wp2
  exact bodyPost_ret (v := stripV (⟨#[]⟩, 0, 5)) (by simp [results, Try.results47, go_sem, stripV]) rfl ⟨rfl, (Keeps.refl _ _).alloc _⟩

theorem rstrip_ok (f : Frm) (w : World) (hs : f.body.size ≤ 140737488355328) :
    Calls Try.prog 47 #[frval f] w fun e w' => e = .returned (stripV (stripA f.kind (padB f.flags) (weighB f.flags) f.body)) ∧ Keeps nobody w w' := by
  obtain ⟨k, fl, id, b⟩ := f
  have hb := behind_size
  have hnone : unpadA b = none → b.size = 0 ∨ (0 < b.size ∧ b.size < 1 + byteAt b 0) := fun h => by
    unfold unpadA at h
    split at h
    · rename_i h2
      by_cases h0 : b.size = 0
      · exact .inl h0
      · exact .inr ⟨by omega, by omega⟩
    · cases h
  simp only [stripA]
  by_cases h0 : k = 0
  · subst h0
    cases hp : padB fl with
    | false => simpa [pads, aheadN, hb] using rstrip_0 fl id b w hp
    | true =>
      cases hu : unpadA b with
      | none =>
        rcases hnone hu with h | ⟨h, h2⟩
        · simpa [pads, aheadN, hu] using rstrip_0p_empty fl id b w hp h
        · simpa [pads, aheadN, hu] using rstrip_0p_great fl id b w hs hp h h2
      | some c => simpa [pads, aheadN, hu, hb] using rstrip_0p fl id b w hs hp c hu
  · by_cases h1 : k = 1
    · subst h1
      cases hp : padB fl with
      | true =>
        cases hu : unpadA b with
        | none =>
          rcases hnone hu with h | ⟨h, h2⟩
          · simpa [pads, aheadN, hu] using rstrip_1p_empty fl id b w hp h
          · simpa [pads, aheadN, hu] using rstrip_1p_great fl id b w hs hp h h2
        | some c =>
          cases hq : weighB fl with
          | false => simpa [pads, aheadN, hu, hb] using rstrip_1p fl id b w hs hq hp c hu
          | true =>
            by_cases hn : c.size < 5
            · simpa [pads, aheadN, hu, hn] using rstrip_1pq_short fl id b w hs hq hp c hu hn
            · simpa [pads, aheadN, hu, hn, hb] using rstrip_1pq fl id b w hs hq hp c hu (by omega)
      | false =>
        cases hq : weighB fl with
        | false => simpa [pads, aheadN, hb] using rstrip_1 fl id b w hq hp
        | true =>
          by_cases hn : b.size < 5
          · simpa [pads, aheadN, hn] using rstrip_1q_short fl id b w hs hq hp hn
          · simpa [pads, aheadN, hn, hb] using rstrip_1q fl id b w hs hq hp (by omega)
    · have e0 : (k != 0) = true := by simpa using h0
      have e1 : (k != 1) = true := by simpa using h1
      simpa [pads, aheadN, h0, h1, behind_zero] using rstrip_other k fl id b w e0 e1

end Go.Proofs.Ytdpbnlamdgdljaa
