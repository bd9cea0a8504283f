/-
  What an error's own Error tells: the way that a call through the interface goes; package fail's ending.
-/
import Derived.Test.YtekjnicgffeghaaDoorEPath
import Derived.Test.YtekjnicgffeghaaDoorELay
import Derived.Lib.UnsafeStr
namespace Go.Proofs.YtekjnicgffeghaaDoor
open Go.RowKit Go.Extern.Stop Go.Stop Go.Extern

/-- A call of Error through the interface tells s. -/
def Says (w0 : World) (v : Value) (s : ByteArray) : Prop := ∃ T x f, v = .iface T x ∧ (∀ w, (Go.method 224 T x "Error").run Tryd.prog w = .ok (f, x) w) ∧ (∀ w, (callFunc f #[x]).run Tryd.prog w = .ok (Next.enter f #[x]) w) ∧ ∀ w, Env w → Keeps nobody w0 w → Calls Tryd.prog f #[x] w fun e w' => e = .returned (.string s) ∧ Keeps nobody w w'
theorem fl_enter (x : Value) (w : World) : (callFunc 56 #[x]).run Tryd.prog w = .ok (Next.enter 56 #[x]) w := by kernel_rfl
theorem pl_enter (x : Value) (w : World) : (callFunc 68 #[x]).run Tryd.prog w = .ok (Next.enter 68 #[x]) w := by kernel_rfl
theorem says_pl (w0 : World) (b : Nat) (m : ByteArray) (hb : w0.heap[b]? = some (plObj m)) : Says w0 (plV b) m :=
  ⟨_, _, _, rfl, pl_mError _, pl_enter _, fun w _ hk => (plError b m w ((hk.block b (lt_of_heap hb) id).trans hb)).mono (by rintro e w' ⟨rfl, rfl⟩; exact ⟨rfl, Keeps.refl _ _⟩)⟩
theorem ending_idle (p q : Addr) (w : World) :
    CallsD Tryd.prog 63 #[.pointer (some p), .pointer (some q)] .returning w fun e u' w' => e = .returned (.tuple #[]) ∧ u' = .returning ∧ w' = w := by
  refine callsD_of_wpS Tryd.func63 rfl fun c₀ cs hu => ?_
  apply wpS_seq
  apply wpS_region
  simp [wpOpsS, go_sem, recoverD, hu, Tryd.ntmps63, Exit.thenS]
  refine wpS_cond (t := false) (by simp [Act.eval, Array.replicate]) ?_
  simp only [Bool.false_eq_true, if_false]
  refine wpS_of_wp (wp_skip ?_)
  cases c₀
  simp_all [bodyPostS, results, Tryd.results63]

set_option maxHeartbeats 1000000 in
theorem ending_plain (b : Nat) (op : ByteArray) (c : Int) (w : World) (hE : Env w) (hb : w.heap[b]? = some (flObj op c .nilIface)) :
    Calls Tryd.prog 60 #[.pointer (some ⟨b, 0, none⟩)] w fun e w' => e = .returned (.string (nameOf c)) ∧ Keeps nobody w w' := by
  have hbl := lt_of_heap hb
  have hb2 : ∀ o1 o2, ((w.alloc o1).alloc o2).heap[b]? = some (flObj op c .nilIface) := fun o1 o2 => by
    rw [Below.heap_alloc _ _ b (by simp; omega), Below.heap_alloc _ _ b hbl]; exact hb
  have c1 : ∀ o1 o2, ((w.alloc o1).alloc o2).cell? ⟨b, 1, none⟩ = some (.int .i64 c) := fun o1 o2 => cells_of (hb2 o1 o2) 1 _ rfl
  have c2 : ∀ o1 o2, ((w.alloc o1).alloc o2).cell? ⟨b, 2, none⟩ = some .nilIface := fun o1 o2 => cells_of (hb2 o1 o2) 2 _ rfl
  clear hb2
  have hN : ∀ o1 o2, Calls Tryd.prog 13 #[.int .i64 c] ((w.alloc o1).alloc o2) fun e w' => e = .returned (.string (nameOf c)) ∧ (w.alloc o1).alloc o2 = w' := fun o1 o2 => name_any c _ (hE.quiet ((keeps_alloc _ _).alloc _))
  go_enter_defers Tryd.func60, Tryd.ntmps60
  go_wp2_with fail
  refine Calls.mono (hN _ _) ?_
  rintro e w1 ⟨rfl, rfl⟩
  clear hN
  go_wp2
  simp [bodyPostD, Leaves, results, Tryd.results60, go_sem]
  exact (keeps_alloc _ _).alloc _

set_option maxRecDepth 100000 in
set_option maxHeartbeats 1000000 in
theorem ending_some (b : Nat) (op : ByteArray) (c : Int) (v : Value) (s : ByteArray) (w0 w : World) (hE : Env w) (hk : Keeps nobody w0 w) (hb : w.heap[b]? = some (flObj op c v)) (hs : Says w0 v s) :
    Calls Tryd.prog 60 #[.pointer (some ⟨b, 0, none⟩)] w fun e w' => e = .returned (.string s) ∧ Keeps nobody w w' := by
  have hmf : ∀ (fn : Fn) (first cap : Array Value) (w : World), (Instr.makeFunc fn first cap).run Tryd.prog w = .ok (.func fn first cap) w := fun _ _ _ _ => rfl
  obtain ⟨T, x, f, rfl, hm, hf, hC⟩ := hs
  have hbl := lt_of_heap hb
  have hk1 : Keeps nobody w ((w.alloc (.cells #[.pointer (some ⟨b, 0, none⟩)] 30)).alloc (.cells #[.string ⟨#[]⟩] 9)) := (keeps_alloc _ _).alloc _
  have c2 := cells_of ((hk1.block b hbl id).trans hb) 2 _ rfl
  have hr0 : ((w.alloc (.cells #[.pointer (some ⟨b, 0, none⟩)] 30)).alloc (.cells #[.string ⟨#[]⟩] 9)).heap[w.heap.size + 1]? = some (.cells #[.string ⟨#[]⟩] 9 (0, 0)) := by
    have := heap_alloc_new (w.alloc (.cells #[.pointer (some ⟨b, 0, none⟩)] 30)) (.cells #[.string ⟨#[]⟩] 9)
    simpa using this
  have HC := hid (hC _ (hE.quiet hk1) (hk.then hk1))
  have HK := hid hk1
  have HR := hid hr0
  clear hC hb hk hE hk1 hr0
  go_enter_defers Tryd.func60, Tryd.ntmps60
  go_wp2_with fail
  refine Calls.mono HC.out ?_
  rintro e w1 ⟨rfl, k1⟩
  have h1 := (k1.block _ (lt_of_heap HR.out) id).trans HR.out
  have c3 := cells_of h1 0 _ rfl
  have f3 := thaw h1 0
  have kk := HK.out.then k1
  clear h1 HC HK HR k1
  go_wp2
  refine leaves_cons (f := 63) (args := #[.pointer (some ⟨w.heap.size, 0, none⟩), .pointer (some ⟨w.heap.size + 1, 0, none⟩)]) (by simp) (by simp [go_sem]) ?_
  refine (ending_idle ⟨w.heap.size, 0, none⟩ ⟨w.heap.size + 1, 0, none⟩ _).mono ?_
  rintro e u' w'' ⟨rfl, rfl, rfl⟩
  refine ⟨.string s, ?_, rfl, Keeps.setCell (p := ⟨w.heap.size + 1, 0, none⟩) kk (.inr (Nat.le_succ _)) _⟩
  simp [results, Tryd.results60, go_sem, c3]
end Go.Proofs.YtekjnicgffeghaaDoor
