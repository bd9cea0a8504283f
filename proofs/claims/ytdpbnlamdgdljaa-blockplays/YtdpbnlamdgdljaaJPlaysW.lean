/-
  The law BlockPlays as a walk.
-/
import Derived.Test.YtdpbnlamdgdljaaJLive
import Derived.Test.YtdpbnlamdgdljaaJRef4
import Derived.Test.YtdpbnlamdgdljaaLOpen
namespace Go.Proofs.Ytdpbnlamdgdljaa
open Go.RowKit

/-- A block's box as a thing. -/
def rsT (g : Nat) (o : Opn) : Thing := ⟨fun k => k = g, fun w => Rs w g o⟩
theorem rsT_ok {g : Nat} {o : Opn} : (rsT g o).Ok := ⟨fun h hk hS => Rs.keeps h hk (hS g rfl), fun {w} h k hk => by
  have h' : Rs w g o := h
  have hk' : k = g := hk
  rw [hk']
  exact h'.lt⟩
section
variable {W w : World} {g rg : Nat} {v : Value} {m : Nat} {o : Opn} {ts : List Thing} {t : Thing}
theorem Hold.rs {q : Opn} (h : Hold W w ts) (hm : rsT g q ∈ ts) : Rs w g q := h.inv (rsT g q) hm
theorem Hold.rb (h : Hold W w (t :: rbT rg m o :: ts)) : Rb w rg m o := h.inv (rbT rg m o) (by simp)
theorem Hold.third {t' t3 : Thing} (h : Hold W w (t3 :: t :: t' :: ts)) : Hold W w (t :: t' :: t3 :: ts) :=
  h.perm ((List.Perm.swap t t3 (t' :: ts)).trans (List.Perm.cons t (List.Perm.swap t' t3 ts)))
theorem Hold.fbox {t' : Thing} (h : Hold W w (t :: t' :: ts)) (f : Frm) : Hold W (w.alloc (frobj f.kind f.flags f.id f.body)) (t :: t' :: bxT w.heap.size f :: ts) := (h.box f).third
theorem Hold.bbox {t' : Thing} (h : Hold W w (t :: t' :: ts)) (q : Opn) : Hold W (w.alloc (bkobj q)) (t :: t' :: rsT w.heap.size q :: ts) :=
  (h.add (t := rsT w.heap.size q) (keeps_alloc _ _) rsT_ok (rs_new w q) fun k e => by
    have e' : k = w.heap.size := e
    omega).third
theorem Hold.rbox {t' : Thing} (h : Hold W w (t :: t' :: ts)) (q : Opn) : Hold W (w.alloc (rbobj q.id q.bytes q.fin)) (t :: t' :: rsT w.heap.size q :: ts) :=
  (h.add (t := rsT w.heap.size q) (keeps_alloc _ _) rsT_ok (rr_new w q.id q.bytes q.fin) fun k e => by
    have e' : k = w.heap.size := e
    omega).third
theorem Hold.brnew (h : Hold W w (t :: ts)) (m : Nat) : Hold W (w.alloc (.cells #[.int .i64 (m : Int), .int .i64 0, .string ⟨#[]⟩, .bool false] 49)) (t :: rbT w.heap.size m noO :: ts) :=
  (h.add (t := rbT w.heap.size m noO) (keeps_alloc _ _) rbT_ok ⟨⟨false, heap_alloc_new w _, fun _ => rfl⟩, fun _ => rfl⟩ fun k e => by
    have e' : k = w.heap.size := e
    omega).swap
theorem t_rTake (h : Hold W w (t :: rbT rg m o :: ts)) (f : Frm) (hs : o.bytes.size + f.body.size ≤ 140737488355328) : Calls Try.prog 18 #[.pointer (some ⟨rg, 0, none⟩), frval f] w fun e w' => e = .returned (takeV (takeA m o f).1) ∧ Hid (Hold W w' (t :: rbT rg m (takeA m o f).2 :: ts)) := by
  refine (rTake_ok h.rb f hs).mono ?_
  rintro e w' ⟨he, hd⟩
  exact ⟨he, h.act (a := [t]) hd⟩
end
/-- Where the frames that came in lie, as a later world has it. -/
def AtF (w : World) (b off : Nat) (l : List Frm) : Prop := ∀ i f, l[i]? = some f → w.cell? ⟨b, off + i * 4, none⟩ = some (.int .i64 f.kind) ∧ w.cell? ⟨b, off + i * 4 + 1, none⟩ = some (.int .i64 f.flags) ∧ w.cell? ⟨b, off + i * 4 + 2, none⟩ = some (.int .i64 f.id) ∧ w.cell? ⟨b, off + i * 4 + 3, none⟩ = some (.string f.body)
theorem belowF {W w : World} (h : Below W.heap.size W w) {p : Addr} (hp : p.block < W.heap.size) : w.cell? p = W.cell? p := World.cell?_of_block (h.block _ hp)
theorem atF_of {W : World} {a : Option Addr} {l : List Frm} (h : Frs W a l) : ∃ b off, (l = [] ∨ a = some ⟨b, off, none⟩) ∧ ∀ w, Below W.heap.size W w → AtF w b off l := by
  rcases h.1 with rfl | ⟨b, off, rfl, hb, hc⟩
  · exact ⟨0, 0, .inl rfl, fun w _ i x hi => by simp at hi⟩
  · refine ⟨b, off, .inr rfl, fun w hw i f hi => ?_⟩
    have hk : ∀ n, w.cell? ⟨b, n, none⟩ = W.cell? ⟨b, n, none⟩ := fun n => belowF hw hb
    exact ⟨(hk _).trans (hc i f hi 0 _ rfl), (hk _).trans (hc i f hi 1 _ rfl), (hk _).trans (hc i f hi 2 _ rfl), (hk _).trans (hc i f hi 3 _ rfl)⟩
attribute [local irreducible] nums str pieceN cutAt takeA opnK cutA zerosB checkA

set_option maxRecDepth 100000 in
theorem bplays_off (m : Int) (a : Option Addr) (n cap : Nat) (w : World) (h : 80 < n) : Calls Try.prog 4 #[.int .i64 m, .slice a n cap] w (Fine w) := by
  have HA : Hid (∀ W, Calls Try.prog 9 #[] W fun e w' => e = .returned (.bool true) ∧ Keeps nobody W w') := alive_ok
  go_enter Try.func4, Try.ntmps4
  go_wp2_with fail
  refine Calls.mono (HA.out _) ?_
  rintro e w1 ⟨rfl, k1⟩
  go_wp2
  go_ret
  exact ⟨rfl, below_of_keeps k1⟩

set_option maxRecDepth 100000 in
theorem bplays_none (m : Int) (a : Option Addr) (n cap : Nat) (w : World) (h : n ≤ 80) (hm : m < 1) : Calls Try.prog 4 #[.int .i64 m, .slice a n cap] w (Fine w) := by
  have HA : Hid (∀ W, Calls Try.prog 9 #[] W fun e w' => e = .returned (.bool true) ∧ Keeps nobody W w') := alive_ok
  have HN : Hid (∀ W, Calls Try.prog 14 #[.int .i64 m] W fun e w' => e = .returned (.pointer none) ∧ W = w') := fun W => new_no m W hm
  have HX : Hid (∀ W, Calls Try.prog 15 #[.pointer none, .agg #[.int .i64 0, .int .i64 0, .int .i64 0, .string ⟨#[]⟩]] W fun e w' => e = .returned (.tuple #[.agg #[.int .i64 0, .string ⟨#[]⟩, .bool false], .bool false, .int .i64 8]) ∧ Keeps nobody W w') := take_nil noF
  have HO : Hid (∀ W, Calls Try.prog 16 #[.pointer none] W fun e w' => e = .returned (.int .i64 0) ∧ W = w') := open_nil
  go_enter Try.func4, Try.ntmps4
  go_wp2_with fail
  refine Calls.mono (HA.out _) ?_
  rintro e w1 ⟨rfl, k1⟩
  go_wp2_with fail
  refine Calls.mono (HN.out _) ?_
  rintro e w2 ⟨rfl, rfl⟩
  go_wp2_with fail
  refine Calls.mono (HX.out _) ?_
  rintro e w2 ⟨rfl, k2⟩
  go_wp2_with fail
  refine Calls.mono (HO.out _) ?_
  rintro e w3 ⟨rfl, rfl⟩
  go_wp2
  go_ret
  exact ⟨rfl, below_of_keeps ((k1.then k2).alloc _)⟩
end Go.Proofs.Ytdpbnlamdgdljaa
