/-
  Package frame: Strip.
-/
import Derived.Test.YtdpbnlamdgdljaaRPut
namespace Go.Proofs.Ytdpbnlamdgdljaa
open Go.RowKit
attribute [local irreducible] numL byteAt endOf idOf nums str

theorem unpadA_size (b c : ByteArray) (h : unpadA b = some c) : c.size ≤ b.size := by
  unfold unpadA at h
  split at h
  · cases h
  · simp only [Option.some.injEq] at h
    rw [← h, extract_size _ _ _ (by omega)]
    omega
theorem behind_size (c : ByteArray) (n : Nat) : (behind c n).size = c.size - n := by rw [behind, extract_size _ _ _ (Nat.le_refl _)]
theorem slice_behind (c : ByteArray) (n : Nat) (h : n ≤ c.size) (w : World) : (Instr.slice 9 (.string c) (some (.int .i64 (n : Int))) none none).run Try.prog w = .ok (.string (behind c n)) w := slice_from c n h w

set_option maxRecDepth 100000 in
set_option maxHeartbeats 1000000 in
theorem strip_other (k fl id : Int) (b : ByteArray) (w : World) (hs : b.size ≤ 140737488355328) (h0 : (k == 0) = false) (h1 : (k == 1) = false) :
    Calls Try.prog 50 #[frval ⟨k, fl, id, b⟩] w fun e w' => e = .returned (stripV (behind b 0, b.size - (behind b 0).size, 0)) ∧ Keeps nobody w w' := by
  have hsl : ∀ w, (Instr.slice 9 (.string b) (some (.int .i64 0)) none none).run Try.prog w = .ok (.string (behind b 0)) w := fun w => slice_behind b 0 (by omega) w
  have hd := behind_size b 0
  have hsub : (b.size : Int) - ((behind b 0).size : Int) = ((b.size - (behind b 0).size : Nat) : Int) := by omega
  have hle : (behind b 0).size ≤ b.size := by omega
  clear hd
  generalize b.size - (behind b 0).size = r at *
  generalize behind b 0 = D at *
  go_enter Try.func50, Try.ntmps50
  go_wp2_with fail
  go_quiet (fail)
  go_wp2
  exact bodyPost_ret (v := stripV (D, r, 0)) (by simp [results, Try.results50, go_sem, stripV]) rfl ⟨rfl, ((Keeps.refl _ _).alloc _).drewN _⟩

set_option maxRecDepth 100000 in
set_option maxHeartbeats 1000000 in
theorem strip_0 (fl id : Int) (b : ByteArray) (w : World) (hs : b.size ≤ 140737488355328) (hp : (bits .and .i64 fl 8 != 0) = false) :
    Calls Try.prog 50 #[frval ⟨0, fl, id, b⟩] w fun e w' => e = .returned (stripV (behind b 0, b.size - (behind b 0).size, 0)) ∧ Keeps nobody w w' := by
  have hsl : ∀ w, (Instr.slice 9 (.string b) (some (.int .i64 0)) none none).run Try.prog w = .ok (.string (behind b 0)) w := fun w => slice_behind b 0 (by omega) w
  have hd := behind_size b 0
  have hsub : (b.size : Int) - ((behind b 0).size : Int) = ((b.size - (behind b 0).size : Nat) : Int) := by omega
  have hle : (behind b 0).size ≤ b.size := by omega
  clear hd
  generalize b.size - (behind b 0).size = r at *
  generalize behind b 0 = D at *
  generalize hP : bits .and .i64 fl 8 = P at *
  go_enter Try.func50, Try.ntmps50
  go_wp2_with fail
  go_quiet (fail)
  go_wp2
  exact bodyPost_ret (v := stripV (D, r, 0)) (by simp [results, Try.results50, go_sem, stripV]) rfl ⟨rfl, ((Keeps.refl _ _).alloc _).drewN _⟩

set_option maxRecDepth 100000 in
set_option maxHeartbeats 1000000 in
theorem strip_0p_none (fl id : Int) (b : ByteArray) (w : World) (hs : b.size ≤ 140737488355328) (hp : (bits .and .i64 fl 8 != 0) = true) (hu : unpadA b = none) :
    Calls Try.prog 50 #[frval ⟨0, fl, id, b⟩] w fun e w' => e = .returned (stripV (⟨#[]⟩, 0, 11)) ∧ Keeps nobody w w' := by
  have HU : Hid (∀ w, Calls Try.prog 63 #[.string b] w fun e w' => e = .returned (.tuple #[.string ⟨#[]⟩, .bool false]) ∧ w = w') := fun w => by
    have := unpad_ok b w hs
    rw [hu] at this
    exact this
  clear hu
  generalize hP : bits .and .i64 fl 8 = P at *
  go_enter Try.func50, Try.ntmps50
  go_wp2_with fail
  refine Calls.mono (HU.out _) ?_
  rintro e w1 ⟨rfl, rfl⟩
  go_wp2
  exact bodyPost_ret (v := stripV (⟨#[]⟩, 0, 11)) (by simp [results, Try.results50, go_sem, stripV]) rfl ⟨rfl, (Keeps.refl _ _).alloc _⟩

set_option maxRecDepth 100000 in
set_option maxHeartbeats 1000000 in
theorem strip_0p (fl id : Int) (b : ByteArray) (w : World) (hs : b.size ≤ 140737488355328) (hp : (bits .and .i64 fl 8 != 0) = true) (c : ByteArray) (hu : unpadA b = some c) :
    Calls Try.prog 50 #[frval ⟨0, fl, id, b⟩] w fun e w' => e = .returned (stripV (behind c 0, b.size - (behind c 0).size, 0)) ∧ Keeps nobody w w' := by
  have HU : Hid (∀ w, Calls Try.prog 63 #[.string b] w fun e w' => e = .returned (.tuple #[.string c, .bool true]) ∧ w = w') := fun w => by
    have := unpad_ok b w hs
    rw [hu] at this
    exact this
  have hcs := unpadA_size b c hu
  have hsl : ∀ w, (Instr.slice 9 (.string c) (some (.int .i64 0)) none none).run Try.prog w = .ok (.string (behind c 0)) w := fun w => slice_behind c 0 (by omega) w
  have hd := behind_size c 0
  have hsub : (b.size : Int) - ((behind c 0).size : Int) = ((b.size - (behind c 0).size : Nat) : Int) := by omega
  have hle : (behind c 0).size ≤ b.size := by omega
  clear hd
  generalize b.size - (behind c 0).size = r at *
  generalize behind c 0 = D at *
  clear hu
  generalize hP : bits .and .i64 fl 8 = P at *
  go_enter Try.func50, Try.ntmps50
  go_wp2_with fail
  refine Calls.mono (HU.out _) ?_
  rintro e w1 ⟨rfl, rfl⟩
  go_wp2_with fail
  go_quiet (fail)
  go_wp2
  exact bodyPost_ret (v := stripV (D, r, 0)) (by simp [results, Try.results50, go_sem, stripV]) rfl ⟨rfl, ((Keeps.refl _ _).alloc _).drewN _⟩

set_option maxRecDepth 100000 in
set_option maxHeartbeats 1000000 in
theorem strip_1 (fl id : Int) (b : ByteArray) (w : World) (hs : b.size ≤ 140737488355328) (hq : (bits .and .i64 fl 32 != 0) = false) (hp : (bits .and .i64 fl 8 != 0) = false) :
    Calls Try.prog 50 #[frval ⟨1, fl, id, b⟩] w fun e w' => e = .returned (stripV (behind b 0, b.size - (behind b 0).size, 0)) ∧ Keeps nobody w w' := by
  have hsl : ∀ w, (Instr.slice 9 (.string b) (some (.int .i64 0)) none none).run Try.prog w = .ok (.string (behind b 0)) w := fun w => slice_behind b 0 (by omega) w
  have hd := behind_size b 0
  have hsub : (b.size : Int) - ((behind b 0).size : Int) = ((b.size - (behind b 0).size : Nat) : Int) := by omega
  have hle : (behind b 0).size ≤ b.size := by omega
  clear hd
  generalize b.size - (behind b 0).size = r at *
  generalize behind b 0 = D at *
  generalize hP : bits .and .i64 fl 8 = P at *
  generalize hQ : bits .and .i64 fl 32 = Q at *
  go_enter Try.func50, Try.ntmps50
  go_wp2_with fail
  go_quiet (fail)
  go_wp2
  exact bodyPost_ret (v := stripV (D, r, 0)) (by simp [results, Try.results50, go_sem, stripV]) rfl ⟨rfl, ((Keeps.refl _ _).alloc _).drewN _⟩

set_option maxRecDepth 100000 in
set_option maxHeartbeats 1000000 in
theorem strip_1p_none (fl id : Int) (b : ByteArray) (w : World) (hs : b.size ≤ 140737488355328) (hq : (bits .and .i64 fl 32 != 0) = false) (hp : (bits .and .i64 fl 8 != 0) = true) (hu : unpadA b = none) :
    Calls Try.prog 50 #[frval ⟨1, fl, id, b⟩] w fun e w' => e = .returned (stripV (⟨#[]⟩, 0, 11)) ∧ Keeps nobody w w' := by
  have HU : Hid (∀ w, Calls Try.prog 63 #[.string b] w fun e w' => e = .returned (.tuple #[.string ⟨#[]⟩, .bool false]) ∧ w = w') := fun w => by
    have := unpad_ok b w hs
    rw [hu] at this
    exact this
  clear hu
  generalize hP : bits .and .i64 fl 8 = P at *
  generalize hQ : bits .and .i64 fl 32 = Q at *
  go_enter Try.func50, Try.ntmps50
  go_wp2_with fail
  refine Calls.mono (HU.out _) ?_
  rintro e w1 ⟨rfl, rfl⟩
  go_wp2
  exact bodyPost_ret (v := stripV (⟨#[]⟩, 0, 11)) (by simp [results, Try.results50, go_sem, stripV]) rfl ⟨rfl, (Keeps.refl _ _).alloc _⟩

set_option maxRecDepth 100000 in
set_option maxHeartbeats 1000000 in
theorem strip_1p (fl id : Int) (b : ByteArray) (w : World) (hs : b.size ≤ 140737488355328) (hq : (bits .and .i64 fl 32 != 0) = false) (hp : (bits .and .i64 fl 8 != 0) = true) (c : ByteArray) (hu : unpadA b = some c) :
    Calls Try.prog 50 #[frval ⟨1, fl, id, b⟩] w fun e w' => e = .returned (stripV (behind c 0, b.size - (behind c 0).size, 0)) ∧ Keeps nobody w w' := by
  have HU : Hid (∀ w, Calls Try.prog 63 #[.string b] w fun e w' => e = .returned (.tuple #[.string c, .bool true]) ∧ w = w') := fun w => by
    have := unpad_ok b w hs
    rw [hu] at this
    exact this
  have hcs := unpadA_size b c hu
  have hsl : ∀ w, (Instr.slice 9 (.string c) (some (.int .i64 0)) none none).run Try.prog w = .ok (.string (behind c 0)) w := fun w => slice_behind c 0 (by omega) w
  have hd := behind_size c 0
  have hsub : (b.size : Int) - ((behind c 0).size : Int) = ((b.size - (behind c 0).size : Nat) : Int) := by omega
  have hle : (behind c 0).size ≤ b.size := by omega
  clear hd
  generalize b.size - (behind c 0).size = r at *
  generalize behind c 0 = D at *
  clear hu
  generalize hP : bits .and .i64 fl 8 = P at *
  generalize hQ : bits .and .i64 fl 32 = Q at *
  go_enter Try.func50, Try.ntmps50
  go_wp2_with fail
  refine Calls.mono (HU.out _) ?_
  rintro e w1 ⟨rfl, rfl⟩
  go_wp2_with fail
  go_quiet (fail)
  go_wp2
  exact bodyPost_ret (v := stripV (D, r, 0)) (by simp [results, Try.results50, go_sem, stripV]) rfl ⟨rfl, ((Keeps.refl _ _).alloc _).drewN _⟩

set_option maxRecDepth 100000 in
set_option maxHeartbeats 1000000 in
theorem strip_1q (fl id : Int) (b : ByteArray) (w : World) (hs : b.size ≤ 140737488355328) (hq : (bits .and .i64 fl 32 != 0) = true) (hp : (bits .and .i64 fl 8 != 0) = false) (hn : 5 ≤ b.size) :
    Calls Try.prog 50 #[frval ⟨1, fl, id, b⟩] w fun e w' => e = .returned (stripV (behind b 5, b.size - (behind b 5).size, 0)) ∧ Keeps nobody w w' := by
  have hsl : ∀ w, (Instr.slice 9 (.string b) (some (.int .i64 5)) none none).run Try.prog w = .ok (.string (behind b 5)) w := fun w => slice_behind b 5 (by omega) w
  have hd := behind_size b 5
  have hsub : (b.size : Int) - ((behind b 5).size : Int) = ((b.size - (behind b 5).size : Nat) : Int) := by omega
  have hle : (behind b 5).size ≤ b.size := by omega
  clear hd
  generalize b.size - (behind b 5).size = r at *
  generalize behind b 5 = D at *
  generalize hP : bits .and .i64 fl 8 = P at *
  generalize hQ : bits .and .i64 fl 32 = Q at *
  go_enter Try.func50, Try.ntmps50
  go_wp2_with fail
  go_quiet (fail)
  go_wp2
  exact bodyPost_ret (v := stripV (D, r, 0)) (by simp [results, Try.results50, go_sem, stripV]) rfl ⟨rfl, ((Keeps.refl _ _).alloc _).drewN _⟩

set_option maxRecDepth 100000 in
set_option maxHeartbeats 1000000 in
theorem strip_1q_short (fl id : Int) (b : ByteArray) (w : World) (hs : b.size ≤ 140737488355328) (hq : (bits .and .i64 fl 32 != 0) = true) (hp : (bits .and .i64 fl 8 != 0) = false) (hn : b.size < 5) :
    Calls Try.prog 50 #[frval ⟨1, fl, id, b⟩] w fun e w' => e = .returned (stripV (⟨#[]⟩, 0, 5)) ∧ Keeps nobody w w' := by
  generalize hP : bits .and .i64 fl 8 = P at *
  generalize hQ : bits .and .i64 fl 32 = Q at *
  go_enter Try.func50, Try.ntmps50
  go_wp2_with fail
  exact bodyPost_ret (v := stripV (⟨#[]⟩, 0, 5)) (by simp [results, Try.results50, go_sem, stripV]) rfl ⟨rfl, (Keeps.refl _ _).alloc _⟩

set_option maxRecDepth 100000 in
set_option maxHeartbeats 1000000 in
theorem strip_1pq_none (fl id : Int) (b : ByteArray) (w : World) (hs : b.size ≤ 140737488355328) (hq : (bits .and .i64 fl 32 != 0) = true) (hp : (bits .and .i64 fl 8 != 0) = true) (hu : unpadA b = none) :
    Calls Try.prog 50 #[frval ⟨1, fl, id, b⟩] w fun e w' => e = .returned (stripV (⟨#[]⟩, 0, 11)) ∧ Keeps nobody w w' := by
  have HU : Hid (∀ w, Calls Try.prog 63 #[.string b] w fun e w' => e = .returned (.tuple #[.string ⟨#[]⟩, .bool false]) ∧ w = w') := fun w => by
    have := unpad_ok b w hs
    rw [hu] at this
    exact this
  clear hu
  generalize hP : bits .and .i64 fl 8 = P at *
  generalize hQ : bits .and .i64 fl 32 = Q at *
  go_enter Try.func50, Try.ntmps50
  go_wp2_with fail
  refine Calls.mono (HU.out _) ?_
  rintro e w1 ⟨rfl, rfl⟩
  go_wp2
  exact bodyPost_ret (v := stripV (⟨#[]⟩, 0, 11)) (by simp [results, Try.results50, go_sem, stripV]) rfl ⟨rfl, (Keeps.refl _ _).alloc _⟩

set_option maxRecDepth 100000 in
set_option maxHeartbeats 1000000 in
theorem strip_1pq (fl id : Int) (b : ByteArray) (w : World) (hs : b.size ≤ 140737488355328) (hq : (bits .and .i64 fl 32 != 0) = true) (hp : (bits .and .i64 fl 8 != 0) = true) (c : ByteArray) (hu : unpadA b = some c) (hn : 5 ≤ c.size) :
    Calls Try.prog 50 #[frval ⟨1, fl, id, b⟩] w fun e w' => e = .returned (stripV (behind c 5, b.size - (behind c 5).size, 0)) ∧ Keeps nobody w w' := by
  have HU : Hid (∀ w, Calls Try.prog 63 #[.string b] w fun e w' => e = .returned (.tuple #[.string c, .bool true]) ∧ w = w') := fun w => by
    have := unpad_ok b w hs
    rw [hu] at this
    exact this
  have hcs := unpadA_size b c hu
  have hsl : ∀ w, (Instr.slice 9 (.string c) (some (.int .i64 5)) none none).run Try.prog w = .ok (.string (behind c 5)) w := fun w => slice_behind c 5 (by omega) w
  have hd := behind_size c 5
  have hsub : (b.size : Int) - ((behind c 5).size : Int) = ((b.size - (behind c 5).size : Nat) : Int) := by omega
  have hle : (behind c 5).size ≤ b.size := by omega
  clear hd
  generalize b.size - (behind c 5).size = r at *
  generalize behind c 5 = D at *
  clear hu
  generalize hP : bits .and .i64 fl 8 = P at *
  generalize hQ : bits .and .i64 fl 32 = Q at *
  go_enter Try.func50, Try.ntmps50
  go_wp2_with fail
  refine Calls.mono (HU.out _) ?_
  rintro e w1 ⟨rfl, rfl⟩
  go_wp2_with fail
  go_quiet (fail)
  go_wp2
  exact bodyPost_ret (v := stripV (D, r, 0)) (by simp [results, Try.results50, go_sem, stripV]) rfl ⟨rfl, ((Keeps.refl _ _).alloc _).drewN _⟩

set_option maxRecDepth 100000 in
set_option maxHeartbeats 1000000 in
theorem strip_1pq_short (fl id : Int) (b : ByteArray) (w : World) (hs : b.size ≤ 140737488355328) (hq : (bits .and .i64 fl 32 != 0) = true) (hp : (bits .and .i64 fl 8 != 0) = true) (c : ByteArray) (hu : unpadA b = some c) (hn : c.size < 5) :
    Calls Try.prog 50 #[frval ⟨1, fl, id, b⟩] w fun e w' => e = .returned (stripV (⟨#[]⟩, 0, 5)) ∧ Keeps nobody w w' := by
  have HU : Hid (∀ w, Calls Try.prog 63 #[.string b] w fun e w' => e = .returned (.tuple #[.string c, .bool true]) ∧ w = w') := fun w => by
    have := unpad_ok b w hs
    rw [hu] at this
    exact this
  have hcs := unpadA_size b c hu
  clear hu
  generalize hP : bits .and .i64 fl 8 = P at *
  generalize hQ : bits .and .i64 fl 32 = Q at *
  go_enter Try.func50, Try.ntmps50
  go_wp2_with fail
  refine Calls.mono (HU.out _) ?_
  rintro e w1 ⟨rfl, rfl⟩
  go_wp2
  exact bodyPost_ret (v := stripV (⟨#[]⟩, 0, 5)) (by simp [results, Try.results50, go_sem, stripV]) rfl ⟨rfl, (Keeps.refl _ _).alloc _⟩

end Go.Proofs.Ytdpbnlamdgdljaa
