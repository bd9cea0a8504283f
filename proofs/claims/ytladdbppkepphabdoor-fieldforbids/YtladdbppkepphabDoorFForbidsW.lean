/-
  FieldForbids: the walk.
-/
import Derived.Test.YtladdbppkepphabDoorFOpen
namespace Go.Proofs.YtladdbppkepphabDoor
open Go.RowKit

theorem forb_list (own : List ByteArray) (f : Fld) (h : forbB f = true) : listE own [] [f] = 6 := by
  have : nextE own [] f = 6 := by unfold nextE; rw [h]; simp
  simp only [listE, this]
  rfl
theorem te_ok : trailersE [(sTe, sTrailers)] = 0 := by decide +kernel
theorem names_ok : nameB sConn = true ∧ nameB sTransfer = true ∧ nameB sUpgrade = true ∧ nameB sKeep = true ∧ nameB sTe = true := by decide +kernel
theorem trl_one (n v : ByteArray) (c : Nat) (hn : n.size ≤ 100) (hv : v.size ≤ 100) (hc : trailersE [(n, v)] = c) : ∀ (W : World) (b : Nat), b = W.heap.size → Calls Tryd.prog 6 #[.slice (some ⟨b, 0, none⟩) 1 1] (W.alloc (.cells #[.string n, .string v] 25)) fun e w' => e = .returned (.int .i64 (c : Int)) ∧ Keeps nobody W w' := by
  rintro W b rfl
  have hz : Sized [(n, v)] := by intro f hf; simp at hf; subst hf; exact ⟨by simp only; omega, by simp only; omega⟩
  have := trailers_ok 1 (lies_alloc W [(n, v)] #[.string n, .string v] 25 rfl) (by simp) hz (by simp) (by decide)
  rw [hc] at this
  exact this.mono fun e w' h => ⟨h.1, (keeps_alloc _ _).then h.2⟩
theorem req_one (n v : ByteArray) (c : Nat) (hn : n.size ≤ 100) (hv : v.size ≤ 100) (hc : requestE [(n, v)] = c) : ∀ (W : World) (b : Nat), b = W.heap.size → Calls Tryd.prog 7 #[.slice (some ⟨b, 0, none⟩) 1 1] (W.alloc (.cells #[.string n, .string v] 25)) fun e w' => e = .returned (.int .i64 (c : Int)) ∧ Keeps nobody W w' := by
  rintro W b rfl
  have hz : Sized [(n, v)] := by intro f hf; simp at hf; subst hf; exact ⟨by simp only; omega, by simp only; omega⟩
  have := request_ok 1 (lies_alloc W [(n, v)] #[.string n, .string v] 25 rfl) (by simp) hz (by simp) (by decide)
  rw [hc] at this
  exact this.mono fun e w' h => ⟨h.1, (keeps_alloc _ _).then h.2⟩
theorem res_one (n v : ByteArray) (c : Nat) (hn : n.size ≤ 100) (hv : v.size ≤ 100) (hc : responseE [(n, v)] = c) : ∀ (W : World) (b : Nat), b = W.heap.size → Calls Tryd.prog 8 #[.slice (some ⟨b, 0, none⟩) 1 1] (W.alloc (.cells #[.string n, .string v] 25)) fun e w' => e = .returned (.int .i64 (c : Int)) ∧ Keeps nobody W w' := by
  rintro W b rfl
  have hz : Sized [(n, v)] := by intro f hf; simp at hf; subst hf; exact ⟨by simp only; omega, by simp only; omega⟩
  have := response_ok 1 (lies_alloc W [(n, v)] #[.string n, .string v] 25 rfl) (by simp) hz (by simp) (by decide)
  rw [hc] at this
  exact this.mono fun e w' h => ⟨h.1, (keeps_alloc _ _).then h.2⟩
theorem forb_req (f : Fld) (h : forbB f = true) : trailersE [f] = 6 ∧ requestE [f] = 6 ∧ responseE [f] = 6 := by
  refine ⟨forb_list [] f h, ?_, ?_⟩
  · unfold requestE; rw [forb_list own4 f h]; rfl
  · unfold responseE; rw [forb_list own1 f h]; rfl

set_option maxRecDepth 100000 in
set_option maxHeartbeats 1000000 in
theorem forbids_0 (which q : Int) (v : ByteArray) (W : World) (hl : v.size ≤ 60) (hq : which.tmod 5 = q) (q1 : -4 ≤ q) (q2 : q ≤ 4) (hr : (q + 5).tmod 5 = 0)
    (HA : Hid (∀ W, Calls Tryd.prog 5 #[] W fun e w' => e = .returned (.bool true) ∧ Keeps nobody W w'))
    (HT : Hid (∀ (W : World) (b : Nat), b = W.heap.size → Calls Tryd.prog 6 #[.slice (some ⟨b, 0, none⟩) 1 1] (W.alloc (.cells #[.string sConn, .string v] 25)) fun e w' => e = .returned (.int .i64 6) ∧ Keeps nobody W w'))
    (HQ : Hid (∀ (W : World) (b : Nat), b = W.heap.size → Calls Tryd.prog 7 #[.slice (some ⟨b, 0, none⟩) 1 1] (W.alloc (.cells #[.string sConn, .string v] 25)) fun e w' => e = .returned (.int .i64 6) ∧ Keeps nobody W w'))
    (HP : Hid (∀ (W : World) (b : Nat), b = W.heap.size → Calls Tryd.prog 8 #[.slice (some ⟨b, 0, none⟩) 1 1] (W.alloc (.cells #[.string sConn, .string v] 25)) fun e w' => e = .returned (.int .i64 6) ∧ Keeps nobody W w'))
    (HN : Hid (∀ W, Calls Tryd.prog 9 #[.string sConn] W fun e w' => e = .returned (.bool true) ∧ W = w')) :
    Calls Tryd.prog 3 #[.int .i64 which, .string v] W fun e w' => e = .returned (.bool true) ∧ Below W.heap.size W w' := by
  go_enter Tryd.func3, Tryd.ntmps3
  go_wp2_with fail
  refine Calls.mono (HA.out _) ?_
  rintro e w1 ⟨rfl, k1⟩
  obtain ⟨wa, hwa⟩ : ∃ wa, wa = w1.alloc (.cells #[.string sConn, .string sTransfer, .string sUpgrade, .string sKeep, .string sTe] 9) := ⟨_, rfl⟩
  have ka : Keeps nobody w1 wa := hwa ▸ keeps_alloc _ _
  have kb : Keeps nobody wa (wa.alloc (.cells #[.string sConn, .string v] 25)) := keeps_alloc _ _
  have fx := fx_new wa sConn v
  have hsz : wa.heap.size = w1.heap.size + 1 := by rw [hwa]; simp
  rw [hwa] at ka kb fx
  clear hwa hsz
  go_wp2_with fail
  refine Calls.mono (HT.out _ _ (by simp)) ?_
  rintro e w2 ⟨rfl, k2⟩
  obtain ⟨d0, d1, _⟩ := (fx.quiet k2).cells
  rw [show (w1.alloc (.cells #[.string sConn, .string sTransfer, .string sUpgrade, .string sKeep, .string sTe] 9)).heap.size = w1.heap.size + 1 by simp] at d0 d1
  go_wp2_with fail
  refine Calls.mono (HQ.out _ _ rfl) ?_
  rintro e w3 ⟨rfl, k3⟩
  obtain ⟨e0, e1, _⟩ := ((fx.quiet k2).quiet k3).cells
  rw [show (w1.alloc (.cells #[.string sConn, .string sTransfer, .string sUpgrade, .string sKeep, .string sTe] 9)).heap.size = w1.heap.size + 1 by simp] at e0 e1
  go_wp2_with fail
  refine Calls.mono (HP.out _ _ rfl) ?_
  rintro e w4 ⟨rfl, k4⟩
  go_wp2_with fail
  refine Calls.mono (HN.out _) ?_
  rintro e w5 ⟨rfl, rfl⟩
  go_wp2
  go_ret
  exact ⟨rfl, below_of_keeps (((((k1.then ka).then kb).then k2).then k3).then k4)⟩

set_option maxRecDepth 100000 in
set_option maxHeartbeats 1000000 in
theorem forbids_1 (which q : Int) (v : ByteArray) (W : World) (hl : v.size ≤ 60) (hq : which.tmod 5 = q) (q1 : -4 ≤ q) (q2 : q ≤ 4) (hr : (q + 5).tmod 5 = 1)
    (HA : Hid (∀ W, Calls Tryd.prog 5 #[] W fun e w' => e = .returned (.bool true) ∧ Keeps nobody W w'))
    (HT : Hid (∀ (W : World) (b : Nat), b = W.heap.size → Calls Tryd.prog 6 #[.slice (some ⟨b, 0, none⟩) 1 1] (W.alloc (.cells #[.string sTransfer, .string v] 25)) fun e w' => e = .returned (.int .i64 6) ∧ Keeps nobody W w'))
    (HQ : Hid (∀ (W : World) (b : Nat), b = W.heap.size → Calls Tryd.prog 7 #[.slice (some ⟨b, 0, none⟩) 1 1] (W.alloc (.cells #[.string sTransfer, .string v] 25)) fun e w' => e = .returned (.int .i64 6) ∧ Keeps nobody W w'))
    (HP : Hid (∀ (W : World) (b : Nat), b = W.heap.size → Calls Tryd.prog 8 #[.slice (some ⟨b, 0, none⟩) 1 1] (W.alloc (.cells #[.string sTransfer, .string v] 25)) fun e w' => e = .returned (.int .i64 6) ∧ Keeps nobody W w'))
    (HN : Hid (∀ W, Calls Tryd.prog 9 #[.string sTransfer] W fun e w' => e = .returned (.bool true) ∧ W = w')) :
    Calls Tryd.prog 3 #[.int .i64 which, .string v] W fun e w' => e = .returned (.bool true) ∧ Below W.heap.size W w' := by
  go_enter Tryd.func3, Tryd.ntmps3
  go_wp2_with fail
  refine Calls.mono (HA.out _) ?_
  rintro e w1 ⟨rfl, k1⟩
  obtain ⟨wa, hwa⟩ : ∃ wa, wa = w1.alloc (.cells #[.string sConn, .string sTransfer, .string sUpgrade, .string sKeep, .string sTe] 9) := ⟨_, rfl⟩
  have ka : Keeps nobody w1 wa := hwa ▸ keeps_alloc _ _
  have kb : Keeps nobody wa (wa.alloc (.cells #[.string sTransfer, .string v] 25)) := keeps_alloc _ _
  have fx := fx_new wa sTransfer v
  have hsz : wa.heap.size = w1.heap.size + 1 := by rw [hwa]; simp
  rw [hwa] at ka kb fx
  clear hwa hsz
  go_wp2_with fail
  refine Calls.mono (HT.out _ _ (by simp)) ?_
  rintro e w2 ⟨rfl, k2⟩
  obtain ⟨d0, d1, _⟩ := (fx.quiet k2).cells
  rw [show (w1.alloc (.cells #[.string sConn, .string sTransfer, .string sUpgrade, .string sKeep, .string sTe] 9)).heap.size = w1.heap.size + 1 by simp] at d0 d1
  go_wp2_with fail
  refine Calls.mono (HQ.out _ _ rfl) ?_
  rintro e w3 ⟨rfl, k3⟩
  obtain ⟨e0, e1, _⟩ := ((fx.quiet k2).quiet k3).cells
  rw [show (w1.alloc (.cells #[.string sConn, .string sTransfer, .string sUpgrade, .string sKeep, .string sTe] 9)).heap.size = w1.heap.size + 1 by simp] at e0 e1
  go_wp2_with fail
  refine Calls.mono (HP.out _ _ rfl) ?_
  rintro e w4 ⟨rfl, k4⟩
  go_wp2_with fail
  refine Calls.mono (HN.out _) ?_
  rintro e w5 ⟨rfl, rfl⟩
  go_wp2
  go_ret
  exact ⟨rfl, below_of_keeps (((((k1.then ka).then kb).then k2).then k3).then k4)⟩

set_option maxRecDepth 100000 in
set_option maxHeartbeats 1000000 in
theorem forbids_2 (which q : Int) (v : ByteArray) (W : World) (hl : v.size ≤ 60) (hq : which.tmod 5 = q) (q1 : -4 ≤ q) (q2 : q ≤ 4) (hr : (q + 5).tmod 5 = 2)
    (HA : Hid (∀ W, Calls Tryd.prog 5 #[] W fun e w' => e = .returned (.bool true) ∧ Keeps nobody W w'))
    (HT : Hid (∀ (W : World) (b : Nat), b = W.heap.size → Calls Tryd.prog 6 #[.slice (some ⟨b, 0, none⟩) 1 1] (W.alloc (.cells #[.string sUpgrade, .string v] 25)) fun e w' => e = .returned (.int .i64 6) ∧ Keeps nobody W w'))
    (HQ : Hid (∀ (W : World) (b : Nat), b = W.heap.size → Calls Tryd.prog 7 #[.slice (some ⟨b, 0, none⟩) 1 1] (W.alloc (.cells #[.string sUpgrade, .string v] 25)) fun e w' => e = .returned (.int .i64 6) ∧ Keeps nobody W w'))
    (HP : Hid (∀ (W : World) (b : Nat), b = W.heap.size → Calls Tryd.prog 8 #[.slice (some ⟨b, 0, none⟩) 1 1] (W.alloc (.cells #[.string sUpgrade, .string v] 25)) fun e w' => e = .returned (.int .i64 6) ∧ Keeps nobody W w'))
    (HN : Hid (∀ W, Calls Tryd.prog 9 #[.string sUpgrade] W fun e w' => e = .returned (.bool true) ∧ W = w')) :
    Calls Tryd.prog 3 #[.int .i64 which, .string v] W fun e w' => e = .returned (.bool true) ∧ Below W.heap.size W w' := by
  go_enter Tryd.func3, Tryd.ntmps3
  go_wp2_with fail
  refine Calls.mono (HA.out _) ?_
  rintro e w1 ⟨rfl, k1⟩
  obtain ⟨wa, hwa⟩ : ∃ wa, wa = w1.alloc (.cells #[.string sConn, .string sTransfer, .string sUpgrade, .string sKeep, .string sTe] 9) := ⟨_, rfl⟩
  have ka : Keeps nobody w1 wa := hwa ▸ keeps_alloc _ _
  have kb : Keeps nobody wa (wa.alloc (.cells #[.string sUpgrade, .string v] 25)) := keeps_alloc _ _
  have fx := fx_new wa sUpgrade v
  have hsz : wa.heap.size = w1.heap.size + 1 := by rw [hwa]; simp
  rw [hwa] at ka kb fx
  clear hwa hsz
  go_wp2_with fail
  refine Calls.mono (HT.out _ _ (by simp)) ?_
  rintro e w2 ⟨rfl, k2⟩
  obtain ⟨d0, d1, _⟩ := (fx.quiet k2).cells
  rw [show (w1.alloc (.cells #[.string sConn, .string sTransfer, .string sUpgrade, .string sKeep, .string sTe] 9)).heap.size = w1.heap.size + 1 by simp] at d0 d1
  go_wp2_with fail
  refine Calls.mono (HQ.out _ _ rfl) ?_
  rintro e w3 ⟨rfl, k3⟩
  obtain ⟨e0, e1, _⟩ := ((fx.quiet k2).quiet k3).cells
  rw [show (w1.alloc (.cells #[.string sConn, .string sTransfer, .string sUpgrade, .string sKeep, .string sTe] 9)).heap.size = w1.heap.size + 1 by simp] at e0 e1
  go_wp2_with fail
  refine Calls.mono (HP.out _ _ rfl) ?_
  rintro e w4 ⟨rfl, k4⟩
  go_wp2_with fail
  refine Calls.mono (HN.out _) ?_
  rintro e w5 ⟨rfl, rfl⟩
  go_wp2
  go_ret
  exact ⟨rfl, below_of_keeps (((((k1.then ka).then kb).then k2).then k3).then k4)⟩

set_option maxRecDepth 100000 in
set_option maxHeartbeats 1000000 in
theorem forbids_3 (which q : Int) (v : ByteArray) (W : World) (hl : v.size ≤ 60) (hq : which.tmod 5 = q) (q1 : -4 ≤ q) (q2 : q ≤ 4) (hr : (q + 5).tmod 5 = 3)
    (HA : Hid (∀ W, Calls Tryd.prog 5 #[] W fun e w' => e = .returned (.bool true) ∧ Keeps nobody W w'))
    (HT : Hid (∀ (W : World) (b : Nat), b = W.heap.size → Calls Tryd.prog 6 #[.slice (some ⟨b, 0, none⟩) 1 1] (W.alloc (.cells #[.string sKeep, .string v] 25)) fun e w' => e = .returned (.int .i64 6) ∧ Keeps nobody W w'))
    (HQ : Hid (∀ (W : World) (b : Nat), b = W.heap.size → Calls Tryd.prog 7 #[.slice (some ⟨b, 0, none⟩) 1 1] (W.alloc (.cells #[.string sKeep, .string v] 25)) fun e w' => e = .returned (.int .i64 6) ∧ Keeps nobody W w'))
    (HP : Hid (∀ (W : World) (b : Nat), b = W.heap.size → Calls Tryd.prog 8 #[.slice (some ⟨b, 0, none⟩) 1 1] (W.alloc (.cells #[.string sKeep, .string v] 25)) fun e w' => e = .returned (.int .i64 6) ∧ Keeps nobody W w'))
    (HN : Hid (∀ W, Calls Tryd.prog 9 #[.string sKeep] W fun e w' => e = .returned (.bool true) ∧ W = w')) :
    Calls Tryd.prog 3 #[.int .i64 which, .string v] W fun e w' => e = .returned (.bool true) ∧ Below W.heap.size W w' := by
  go_enter Tryd.func3, Tryd.ntmps3
  go_wp2_with fail
  refine Calls.mono (HA.out _) ?_
  rintro e w1 ⟨rfl, k1⟩
  obtain ⟨wa, hwa⟩ : ∃ wa, wa = w1.alloc (.cells #[.string sConn, .string sTransfer, .string sUpgrade, .string sKeep, .string sTe] 9) := ⟨_, rfl⟩
  have ka : Keeps nobody w1 wa := hwa ▸ keeps_alloc _ _
  have kb : Keeps nobody wa (wa.alloc (.cells #[.string sKeep, .string v] 25)) := keeps_alloc _ _
  have fx := fx_new wa sKeep v
  have hsz : wa.heap.size = w1.heap.size + 1 := by rw [hwa]; simp
  rw [hwa] at ka kb fx
  clear hwa hsz
  go_wp2_with fail
  refine Calls.mono (HT.out _ _ (by simp)) ?_
  rintro e w2 ⟨rfl, k2⟩
  obtain ⟨d0, d1, _⟩ := (fx.quiet k2).cells
  rw [show (w1.alloc (.cells #[.string sConn, .string sTransfer, .string sUpgrade, .string sKeep, .string sTe] 9)).heap.size = w1.heap.size + 1 by simp] at d0 d1
  go_wp2_with fail
  refine Calls.mono (HQ.out _ _ rfl) ?_
  rintro e w3 ⟨rfl, k3⟩
  obtain ⟨e0, e1, _⟩ := ((fx.quiet k2).quiet k3).cells
  rw [show (w1.alloc (.cells #[.string sConn, .string sTransfer, .string sUpgrade, .string sKeep, .string sTe] 9)).heap.size = w1.heap.size + 1 by simp] at e0 e1
  go_wp2_with fail
  refine Calls.mono (HP.out _ _ rfl) ?_
  rintro e w4 ⟨rfl, k4⟩
  go_wp2_with fail
  refine Calls.mono (HN.out _) ?_
  rintro e w5 ⟨rfl, rfl⟩
  go_wp2
  go_ret
  exact ⟨rfl, below_of_keeps (((((k1.then ka).then kb).then k2).then k3).then k4)⟩

set_option maxRecDepth 100000 in
set_option maxHeartbeats 1000000 in
theorem forbids_4 (which q : Int) (v : ByteArray) (W : World) (hl : v.size ≤ 60) (hv : (v.toList == [116, 114, 97, 105, 108, 101, 114, 115]) = false) (hq : which.tmod 5 = q) (q1 : -4 ≤ q) (q2 : q ≤ 4) (hr : (q + 5).tmod 5 = 4)
    (HA : Hid (∀ W, Calls Tryd.prog 5 #[] W fun e w' => e = .returned (.bool true) ∧ Keeps nobody W w'))
    (HT : Hid (∀ (W : World) (b : Nat), b = W.heap.size → Calls Tryd.prog 6 #[.slice (some ⟨b, 0, none⟩) 1 1] (W.alloc (.cells #[.string sTe, .string v] 25)) fun e w' => e = .returned (.int .i64 6) ∧ Keeps nobody W w'))
    (HQ : Hid (∀ (W : World) (b : Nat), b = W.heap.size → Calls Tryd.prog 7 #[.slice (some ⟨b, 0, none⟩) 1 1] (W.alloc (.cells #[.string sTe, .string v] 25)) fun e w' => e = .returned (.int .i64 6) ∧ Keeps nobody W w'))
    (HP : Hid (∀ (W : World) (b : Nat), b = W.heap.size → Calls Tryd.prog 8 #[.slice (some ⟨b, 0, none⟩) 1 1] (W.alloc (.cells #[.string sTe, .string v] 25)) fun e w' => e = .returned (.int .i64 6) ∧ Keeps nobody W w'))
    (HN : Hid (∀ W, Calls Tryd.prog 9 #[.string sTe] W fun e w' => e = .returned (.bool true) ∧ W = w')) :
    Calls Tryd.prog 3 #[.int .i64 which, .string v] W fun e w' => e = .returned (.bool true) ∧ Below W.heap.size W w' := by
  go_enter Tryd.func3, Tryd.ntmps3
  go_wp2_with fail
  refine Calls.mono (HA.out _) ?_
  rintro e w1 ⟨rfl, k1⟩
  obtain ⟨wa, hwa⟩ : ∃ wa, wa = w1.alloc (.cells #[.string sConn, .string sTransfer, .string sUpgrade, .string sKeep, .string sTe] 9) := ⟨_, rfl⟩
  have ka : Keeps nobody w1 wa := hwa ▸ keeps_alloc _ _
  have kb : Keeps nobody wa (wa.alloc (.cells #[.string sTe, .string v] 25)) := keeps_alloc _ _
  have fx := fx_new wa sTe v
  have hsz : wa.heap.size = w1.heap.size + 1 := by rw [hwa]; simp
  rw [hwa] at ka kb fx
  clear hwa hsz
  go_wp2_with fail
  refine Calls.mono (HT.out _ _ (by simp)) ?_
  rintro e w2 ⟨rfl, k2⟩
  obtain ⟨d0, d1, _⟩ := (fx.quiet k2).cells
  rw [show (w1.alloc (.cells #[.string sConn, .string sTransfer, .string sUpgrade, .string sKeep, .string sTe] 9)).heap.size = w1.heap.size + 1 by simp] at d0 d1
  go_wp2_with fail
  refine Calls.mono (HQ.out _ _ rfl) ?_
  rintro e w3 ⟨rfl, k3⟩
  obtain ⟨e0, e1, _⟩ := ((fx.quiet k2).quiet k3).cells
  rw [show (w1.alloc (.cells #[.string sConn, .string sTransfer, .string sUpgrade, .string sKeep, .string sTe] 9)).heap.size = w1.heap.size + 1 by simp] at e0 e1
  go_wp2_with fail
  refine Calls.mono (HP.out _ _ rfl) ?_
  rintro e w4 ⟨rfl, k4⟩
  go_wp2_with fail
  refine Calls.mono (HN.out _) ?_
  rintro e w5 ⟨rfl, rfl⟩
  go_wp2
  go_ret
  exact ⟨rfl, below_of_keeps (((((k1.then ka).then kb).then k2).then k3).then k4)⟩

set_option maxRecDepth 100000 in
set_option maxHeartbeats 1000000 in
theorem forbids_te (which q : Int) (W : World) (hq : which.tmod 5 = q) (q1 : -4 ≤ q) (q2 : q ≤ 4) (hr : (q + 5).tmod 5 = 4)
    (HA : Hid (∀ W, Calls Tryd.prog 5 #[] W fun e w' => e = .returned (.bool true) ∧ Keeps nobody W w'))
    (HT : Hid (∀ (W : World) (b : Nat), b = W.heap.size → Calls Tryd.prog 6 #[.slice (some ⟨b, 0, none⟩) 1 1] (W.alloc (.cells #[.string sTe, .string sTrailers] 25)) fun e w' => e = .returned (.int .i64 0) ∧ Keeps nobody W w')) :
    Calls Tryd.prog 3 #[.int .i64 which, .string sTrailers] W fun e w' => e = .returned (.bool true) ∧ Below W.heap.size W w' := by
  go_enter Tryd.func3, Tryd.ntmps3
  go_wp2_with fail
  refine Calls.mono (HA.out _) ?_
  rintro e w1 ⟨rfl, k1⟩
  go_wp2_with fail
  refine Calls.mono (HT.out _ _ (by simp)) ?_
  rintro e w2 ⟨rfl, k2⟩
  go_wp2
  go_ret
  exact ⟨rfl, below_of_keeps (((k1.then (keeps_alloc _ _)).then (keeps_alloc _ _)).then k2)⟩

set_option maxRecDepth 100000 in
theorem forbids_walk (which : Int) (v : ByteArray) (W : World) (_ : Env W) (hs : v.size ≤ 140737488355328) : Calls Tryd.prog 3 #[.int .i64 which, .string v] W fun e w' => e = .returned (.bool true) ∧ Below W.heap.size W w' := by
  have HA : Hid (∀ W, Calls Tryd.prog 5 #[] W fun e w' => e = .returned (.bool true) ∧ Keeps nobody W w') := alive_ok
  by_cases hl : v.size ≤ 60
  · obtain ⟨q, hq⟩ : ∃ q, which.tmod 5 = q := ⟨_, rfl⟩
    have q1 : -4 ≤ q := by have := Int.lt_tmod_of_pos which (show (0 : Int) < 5 by decide); omega
    have q2 : q ≤ 4 := by have := Int.tmod_lt_of_pos which (show (0 : Int) < 5 by decide); omega
    have ht : (q + 5).tmod 5 = (q + 5) % 5 := Int.tmod_eq_emod_of_nonneg (by omega)
    have h5 : (q + 5) % 5 = 0 ∨ (q + 5) % 5 = 1 ∨ (q + 5) % 5 = 2 ∨ (q + 5) % 5 = 3 ∨ (q + 5) % 5 = 4 := by omega
    rw [← ht] at h5
    obtain ⟨n0, n1, n2, n3, n4⟩ := names_ok
    have name_ok' : ∀ n : ByteArray, n.size ≤ 100 → nameB n = true → Hid (∀ W, Calls Tryd.prog 9 #[.string n] W fun e w' => e = .returned (.bool true) ∧ W = w') := fun n hn h W => by
      have := name_ok n W (by omega)
      rwa [h] at this
    rcases h5 with h | h | h | h | h
    · obtain ⟨f1, f2, f3⟩ := forb_req (sConn, v) (by unfold forbB; exact decide_eq_true (.inl rfl))
      exact forbids_0 which q v W hl hq q1 q2 h HA (trl_one sConn v 6 (by decide) (by omega) f1) (req_one sConn v 6 (by decide) (by omega) f2) (res_one sConn v 6 (by decide) (by omega) f3) (name_ok' _ (by decide) n0)
    · obtain ⟨f1, f2, f3⟩ := forb_req (sTransfer, v) (by unfold forbB; exact decide_eq_true (.inr (.inl rfl)))
      exact forbids_1 which q v W hl hq q1 q2 h HA (trl_one sTransfer v 6 (by decide) (by omega) f1) (req_one sTransfer v 6 (by decide) (by omega) f2) (res_one sTransfer v 6 (by decide) (by omega) f3) (name_ok' _ (by decide) n1)
    · obtain ⟨f1, f2, f3⟩ := forb_req (sUpgrade, v) (by unfold forbB; exact decide_eq_true (.inr (.inr (.inl rfl))))
      exact forbids_2 which q v W hl hq q1 q2 h HA (trl_one sUpgrade v 6 (by decide) (by omega) f1) (req_one sUpgrade v 6 (by decide) (by omega) f2) (res_one sUpgrade v 6 (by decide) (by omega) f3) (name_ok' _ (by decide) n2)
    · obtain ⟨f1, f2, f3⟩ := forb_req (sKeep, v) (by unfold forbB; exact decide_eq_true (.inr (.inr (.inr (.inl rfl)))))
      exact forbids_3 which q v W hl hq q1 q2 h HA (trl_one sKeep v 6 (by decide) (by omega) f1) (req_one sKeep v 6 (by decide) (by omega) f2) (res_one sKeep v 6 (by decide) (by omega) f3) (name_ok' _ (by decide) n3)
    · by_cases hv : v = sTrailers
      · subst hv
        exact forbids_te which q W hq q1 q2 h HA (trl_one sTe sTrailers 0 (by decide) (by decide) te_ok)
      · obtain ⟨f1, f2, f3⟩ := forb_req (sTe, v) (by unfold forbB; exact decide_eq_true (.inr (.inr (.inr (.inr ⟨rfl, hv⟩)))))
        exact forbids_4 which q v W hl (beq_lit_of_ne hv) hq q1 q2 h HA (trl_one sTe v 6 (by decide) (by omega) f1) (req_one sTe v 6 (by decide) (by omega) f2) (res_one sTe v 6 (by decide) (by omega) f3) (name_ok' _ (by decide) n4)
  · go_enter Tryd.func3, Tryd.ntmps3
    go_wp2_with fail
    refine Calls.mono (HA.out _) ?_
    rintro e w1 ⟨rfl, k1⟩
    go_wp2
    go_ret
    exact ⟨rfl, below_of_keeps k1⟩
end Go.Proofs.YtladdbppkepphabDoor
