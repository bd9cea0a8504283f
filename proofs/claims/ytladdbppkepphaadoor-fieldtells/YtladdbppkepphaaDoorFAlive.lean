/-
  The statements' first call of all; how many headers are few.
-/
import Derived.Test.YtladdbppkepphaaDoorFReq
namespace Go.Proofs.YtladdbppkepphaaDoor
open Go.RowKit

theorem lies_alloc (w : World) (l : List Fld) (cs : Array Value) (t : TypeId) (h : cs.toList = fcells l) : Lies (w.alloc (.cells cs t)) (some ⟨w.heap.size, 0, none⟩) l nobody := by
  refine .inr ⟨_, _, rfl, by simp, id, fun i f hi => ?_⟩
  have e : ∀ o, (w.alloc (.cells cs t)).cell? ⟨w.heap.size, o, none⟩ = cs.toList[o]? := by
    intro o
    unfold World.cell?
    rw [heap_alloc_new]
    simp
  rw [e, e, h, Nat.zero_add]
  exact ⟨fcells_at0 l i f hi, fcells_at1 l i f hi⟩
theorem Lies.from {w : World} {b off : Nat} {l : List Fld} {S : Nat → Prop} (k : Nat) (h : Lies w (some ⟨b, off, none⟩) l S) : Lies w (some ⟨b, off + k * 2, none⟩) (l.drop k) S := by
  rcases h with h | ⟨b2, off2, e, hb, hS, hc⟩
  · exact .inl (by rw [h]; simp)
  · simp only [Option.some.injEq, Addr.mk.injEq] at e
    obtain ⟨rfl, rfl, _⟩ := e
    refine .inr ⟨_, _, rfl, hb, hS, fun i f hi => ?_⟩
    rw [List.getElem?_drop] at hi
    have := hc (k + i) f hi
    rw [show off + k * 2 + i * 2 = off + (k + i) * 2 by omega]
    exact this

def reqL : List Fld := [(sMethod, ⟨#[71, 69, 84]⟩), (sScheme, ⟨#[104, 116, 116, 112]⟩), (sAuthority, ⟨#[97]⟩), (sPath, ⟨#[47]⟩)]
def lenL : List Fld := [(sLength, ⟨#[49, 50]⟩)]
theorem req_req : requestE reqL = 0 := by decide +kernel
theorem req_cut : requestE (reqL.drop 1) = 3 := by decide +kernel
theorem req_res : responseE reqL = 6 := by decide +kernel
theorem len_len : lengthE lenL = (12, 0) := by decide +kernel
theorem name_te : nameB sTe = true := by decide +kernel
theorem name_A : nameB ⟨#[65]⟩ = false := by decide +kernel
theorem value_none : valueB ⟨#[]⟩ = true := by decide +kernel
theorem reqL_sized : Sized reqL := by
  unfold Sized
  decide +kernel
theorem lenL_sized : Sized lenL := by
  unfold Sized
  decide +kernel
theorem Sized.drop {l : List Fld} (h : Sized l) (j : Nat) : Sized (l.drop j) := fun f hf => h f (List.mem_of_mem_drop hf)

set_option maxRecDepth 100000 in
set_option maxHeartbeats 1000000 in
theorem alive_ok (w : World) : Calls Tryd.prog 10 #[] w fun e w' => e = .returned (.bool true) ∧ Keeps nobody w w' := by
  have k0 := keeps_alloc w (.cells #[.string sMethod, .string ⟨#[71, 69, 84]⟩, .string sScheme, .string ⟨#[104, 116, 116, 112]⟩, .string sAuthority, .string ⟨#[97]⟩, .string sPath, .string ⟨#[47]⟩] 39)
  have L0 := lies_alloc w reqL #[.string sMethod, .string ⟨#[71, 69, 84]⟩, .string sScheme, .string ⟨#[104, 116, 116, 112]⟩, .string sAuthority, .string ⟨#[97]⟩, .string sPath, .string ⟨#[47]⟩] 39 rfl
  have HR : Hid (∀ W, Keeps nobody (w.alloc (.cells #[.string sMethod, .string ⟨#[71, 69, 84]⟩, .string sScheme, .string ⟨#[104, 116, 116, 112]⟩, .string sAuthority, .string ⟨#[97]⟩, .string sPath, .string ⟨#[47]⟩] 39)) W → Calls Tryd.prog 20 #[.slice (some ⟨w.heap.size, 0, none⟩) 4 4] W fun e w' => e = .returned (.int .i64 0) ∧ Keeps nobody W w') := fun W hW => by
    have := request_ok 4 (L0.quiet hW) (by decide) reqL_sized (by decide) (by decide)
    rwa [req_req] at this
  have HS : Hid (∀ W, Keeps nobody (w.alloc (.cells #[.string sMethod, .string ⟨#[71, 69, 84]⟩, .string sScheme, .string ⟨#[104, 116, 116, 112]⟩, .string sAuthority, .string ⟨#[97]⟩, .string sPath, .string ⟨#[47]⟩] 39)) W → Calls Tryd.prog 20 #[.slice (some ⟨w.heap.size, 2, none⟩) 3 3] W fun e w' => e = .returned (.int .i64 3) ∧ Keeps nobody W w') := fun W hW => by
    have := request_ok 3 ((L0.quiet hW).from 1) (by decide) (reqL_sized.drop 1) (by decide) (by decide)
    rwa [req_cut] at this
  have HP : Hid (∀ W, Keeps nobody (w.alloc (.cells #[.string sMethod, .string ⟨#[71, 69, 84]⟩, .string sScheme, .string ⟨#[104, 116, 116, 112]⟩, .string sAuthority, .string ⟨#[97]⟩, .string sPath, .string ⟨#[47]⟩] 39)) W → Calls Tryd.prog 22 #[.slice (some ⟨w.heap.size, 0, none⟩) 4 4] W fun e w' => e = .returned (.int .i64 6) ∧ Keeps nobody W w') := fun W hW => by
    have := response_ok 4 (L0.quiet hW) (by decide) reqL_sized (by decide) (by decide)
    rwa [req_res] at this
  have HL : Hid (Calls Tryd.prog 14 #[.slice (some ⟨w.heap.size + 1, 0, none⟩) 1 1] ((w.alloc (.cells #[.string sMethod, .string ⟨#[71, 69, 84]⟩, .string sScheme, .string ⟨#[104, 116, 116, 112]⟩, .string sAuthority, .string ⟨#[97]⟩, .string sPath, .string ⟨#[47]⟩] 39)).alloc (.cells #[.string sLength, .string ⟨#[49, 50]⟩] 39)) fun e w' => e = .returned (.tuple #[.int .i64 12, .int .i64 0]) ∧ Keeps nobody (w.alloc (.cells #[.string sMethod, .string ⟨#[71, 69, 84]⟩, .string sScheme, .string ⟨#[104, 116, 116, 112]⟩, .string sAuthority, .string ⟨#[97]⟩, .string sPath, .string ⟨#[47]⟩] 39)) w') := by
    have e : (w.alloc (.cells #[.string sMethod, .string ⟨#[71, 69, 84]⟩, .string sScheme, .string ⟨#[104, 116, 116, 112]⟩, .string sAuthority, .string ⟨#[97]⟩, .string sPath, .string ⟨#[47]⟩] 39)).heap.size = w.heap.size + 1 := by simp
    have := length_ok 1 (lies_alloc (w.alloc (.cells #[.string sMethod, .string ⟨#[71, 69, 84]⟩, .string sScheme, .string ⟨#[104, 116, 116, 112]⟩, .string sAuthority, .string ⟨#[97]⟩, .string sPath, .string ⟨#[47]⟩] 39)) lenL #[.string sLength, .string ⟨#[49, 50]⟩] 39 rfl) (by decide) lenL_sized
    rw [len_len, e] at this
    exact this.mono fun e w' h => ⟨h.1, (keeps_alloc _ _).then h.2⟩
  have HN : Hid (∀ W, Calls Tryd.prog 16 #[.string ⟨#[116, 101]⟩] W fun e w' => e = .returned (.bool true) ∧ W = w') := fun W => by
    have := name_ok sTe W (by decide)
    rwa [name_te] at this
  have HA : Hid (∀ W, Calls Tryd.prog 16 #[.string ⟨#[65]⟩] W fun e w' => e = .returned (.bool false) ∧ W = w') := fun W => by
    have := name_ok ⟨#[65]⟩ W (by decide)
    rwa [name_A] at this
  have HV : Hid (∀ W, Calls Tryd.prog 18 #[.string ⟨#[]⟩] W fun e w' => e = .returned (.bool true) ∧ W = w') := fun W => by
    have := value_ok ⟨#[]⟩ W (by decide)
    rwa [value_none] at this
  clear L0
  go_enter Tryd.func10, Tryd.ntmps10
  go_wp2_with fail
  refine Calls.mono HL.out ?_
  rintro e w1 ⟨rfl, k1⟩
  go_wp2_with fail
  refine Calls.mono (HR.out _ k1) ?_
  rintro e w2 ⟨rfl, k2⟩
  go_wp2_with fail
  refine Calls.mono (HS.out _ (k1.then k2)) ?_
  rintro e w3 ⟨rfl, k3⟩
  go_wp2_with fail
  refine Calls.mono (HP.out _ ((k1.then k2).then k3)) ?_
  rintro e w4 ⟨rfl, k4⟩
  go_wp2_with fail
  refine Calls.mono (HN.out _) ?_
  rintro e w5 ⟨rfl, rfl⟩
  go_wp2_with fail
  refine Calls.mono (HA.out _) ?_
  rintro e w5 ⟨rfl, rfl⟩
  go_wp2_with fail
  refine Calls.mono (HV.out _) ?_
  rintro e w5 ⟨rfl, rfl⟩
  go_wp2
  go_ret
  exact ⟨rfl, k0.then (((k1.then k2).then k3).then k4)⟩
end Go.Proofs.YtladdbppkepphaaDoor
