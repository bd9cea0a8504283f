/-
  The laws' first call: it tells that the package answers as the document's example says.
-/
import Derived.Test.YtdlnfojohkoifaaDoorErr
namespace Go.Proofs.YtdlnfojohkoifaaDoor
open Go.RowKit Go.Extern.Stop Go.Stop Go.Extern

theorem methodError (a : Addr) (w : World) : (Go.method 221 24 (.pointer (some a)) "Error").run Tryd.prog w = .ok (13, .pointer (some a)) w := by kernel_rfl
theorem Chain.open {w : World} {v : Value} {x : ByteArray × Int} {l : List (ByteArray × Int)} (h : Chain w v (x :: l)) : ∃ b, v = .iface 24 (.pointer (some ⟨b, 0, none⟩)) := by
  cases h; exact ⟨_, rfl⟩

set_option maxRecDepth 100000 in
set_option maxHeartbeats 2000000 in
theorem alive_true (w : World) (hE : Env w) : Calls Tryd.prog 8 #[] w fun e w' => e = .returned (.bool true) ∧ Below w.heap.size w w' := by
  have mE := methodError
  go_enter Tryd.func8, Tryd.ntmps8
  go_wp2_with fail
  refine (new_some 13 w (by decide)).mono ?_
  rintro e w1 ⟨rfl, rfl⟩
  have hB0 : Below w.heap.size w (w.alloc (.cells #[.string ⟨#[]⟩, .int .i64 13, .nilIface] 28)) := (Below.refl _ _).alloc (Nat.le_refl _) _
  have hch0 : Chain (w.alloc (.cells #[.string ⟨#[]⟩, .int .i64 13, .nilIface] 28)) (.iface 24 (.pointer (some ⟨w.heap.size, 0, none⟩))) [(⟨#[]⟩, 13)] := .cons (heap_alloc_new w _) .nil
  go_wp2_with fail
  refine (wrap_chain ⟨#[111, 112, 101, 110]⟩ _ _ _ _ _ (hE.grown hB0) hch0).mono ?_
  rintro e w2 ⟨v', rfl, hch, hB1⟩
  have hB2 : Below w.heap.size w w2 := hB0.trans (hB1.mono hB0.size)
  clear hch0 hB0 hB1
  have hE2 := hE.grown hB2
  obtain ⟨b, rfl⟩ := hch.open
  go_wp2_with fail
  refine (new_ok w2).mono ?_
  rintro e w3 ⟨rfl, rfl⟩
  go_wp2_with fail
  have hwd : (⟨(words [(⟨#[111, 112, 101, 110]⟩, 13), (⟨#[]⟩, 13)]).toArray⟩ : ByteArray) = ⟨#[111, 112, 101, 110, 58, 32, 98, 117, 115, 121]⟩ := by decide +kernel
  have h1 := error_chain b _ w3 hE2 hch (by decide +kernel)
  rw [hwd] at h1
  clear hwd
  refine Calls.mono h1 ?_
  clear h1
  rintro e w4 ⟨rfl, hB4⟩
  have hch4 := hch.grown hB4
  have hE4 := hE2.grown hB4
  go_wp2_with fail
  refine (code_chain _ _ _ _ w4 hE4 hch4).mono ?_
  rintro e w5 ⟨rfl, hB5⟩
  have hch5 := hch4.grown hB5
  have hE5 := hE4.grown hB5
  go_wp2_with fail
  refine (has_some _ 13 _ w5 hch5 (by decide)).mono ?_
  rintro e w6 ⟨rfl, hB6⟩
  have hch6 := hch5.grown hB6
  have hE6 := hE5.grown hB6
  rw [show hasT 13 [(⟨#[111, 112, 101, 110]⟩, 13), (⟨#[]⟩, 13)] = true by decide]
  go_wp2_with fail
  refine (has_some _ 14 _ w6 hch6 (by decide)).mono ?_
  rintro e w7 ⟨rfl, hB7⟩
  have hE7 := hE6.grown hB7
  rw [show hasT 14 [(⟨#[111, 112, 101, 110]⟩, 13), (⟨#[]⟩, 13)] = false by decide]
  go_wp2_with fail
  refine (name_any 18 w7 hE7).mono ?_
  rintro e w8 ⟨rfl, rfl⟩
  rw [show nameOf 18 = ⟨#[108, 97, 116, 101]⟩ by decide]
  go_wp2_with fail
  go_ret
  refine ⟨rfl, ?_⟩
  have z4 := hB2.size
  have z5 := hB4.size
  have z6 := hB5.size
  have z7 := hB6.size
  exact (((hB2.trans (hB4.mono (by omega))).trans (hB5.mono (by omega))).trans (hB6.mono (by omega))).trans (hB7.mono (by omega))
end Go.Proofs.YtdlnfojohkoifaaDoor
