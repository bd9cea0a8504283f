/-
  A Splitter beside the reference's: what is fed to both.
-/
import Derived.Test.YtkogkkjdcackcaaLRef
import Derived.Test.YtkogkkjdcackcaaLEmptyW
namespace Go.Proofs.Ytkogkkjdcackcaa
open Go.RowKit

def fedN (o : Bool) (b : ByteArray) : Nat := if o then 0 else b.size
def fedB (o : Bool) (B b : ByteArray) : ByteArray := if o then B else B ++ b
theorem fedB_size (o : Bool) (B b : ByteArray) : (fedB o B b).size ≤ B.size + b.size := by
  cases o
  · rw [fedB, if_neg (by simp), ByteArray.size_append]
    exact Nat.le_refl _
  · rw [fedB, if_pos rfl]
    omega
theorem nextR_size (most : Nat) (o : Bool) (B : ByteArray) : (nextR most o B).2.2.size ≤ B.size := by
  unfold nextR
  split
  · exact Nat.zero_le _
  · split
    · show (restA B).size ≤ _
      rw [restA, extract_size _ _ _ (Nat.le_refl _)]
      omega
    · exact Nat.le_refl _
section
variable {W w : World} {g rg : Nat} {v : Value} {most : Nat} {o : Bool} {B : ByteArray} {ts : List Thing} {t : Thing}
theorem t_fed (h : Hold W w (spT g v most o B :: ts)) (b : ByteArray) (hs : B.size + b.size ≤ 140737488355328) : Calls Try.prog 12 #[.pointer (some ⟨g, 0, none⟩), .string b] w fun e w' => e = .returned (.int .i64 (fedN o b : Int)) ∧ ∃ v', Hid (Hold W w' (spT g v' most o (fedB o B b) :: ts)) := by
  cases o
  · exact t_feed h b hs
  · refine (feed_over h.sp b).mono ?_
    rintro e w' ⟨he, rfl⟩
    exact ⟨he, v, h⟩
theorem t_rnext (h : Hold W w (t :: rpT rg most o B :: ts)) : Calls Try.prog 15 #[.pointer (some ⟨rg, 0, none⟩)] w fun e w' => e = .returned (nextV (nextR most o B).1) ∧ Hid (Hold W w' (t :: rpT rg most (nextR most o B).2.1 (nextR most o B).2.2 :: ts)) := by
  refine (rnext_ok (h.inv (rpT rg most o B) (by simp))).mono ?_
  rintro e w' ⟨he, hd⟩
  exact ⟨he, h.act (a := [t]) hd⟩
theorem Hold.rp (h : Hold W w (t :: rpT rg most o B :: ts)) : Rp w rg most o B := h.inv (rpT rg most o B) (by simp)
/-- Bytes are put behind what the reference holds. -/
theorem Hold.rput (h : Hold W w (t :: rpT rg most false B :: ts)) (b : ByteArray) (hs : (B ++ b).size ≤ 140737488355328) : Hold W (w.setCell ⟨rg, 1, none⟩ (.string (B ++ b))) (t :: rpT rg most false (B ++ b) :: ts) := by
  have hb := h.rp.blk
  refine h.act (a := [t]) (h.rp.relay ?_ ((Keeps.refl (fun k => k = rg) w).setCell (p := ⟨rg, 1, none⟩) (.inl rfl) _) (fun e => by cases e) hs)
  simp [World.setCell, hb, Array.getElem?_modify]
theorem Hold.box3 {t' : Thing} (h : Hold W w (t :: t' :: ts)) (f : Frm) : Hold W (w.alloc (frobj f.kind f.flags f.id f.body)) (t :: t' :: bxT w.heap.size f :: ts) := by
  have h1 := h.box f
  have hp : (bxT w.heap.size f :: t :: t' :: ts).Perm (t :: t' :: bxT w.heap.size f :: ts) := (List.Perm.swap t (bxT w.heap.size f) (t' :: ts)).trans (List.Perm.cons t (List.Perm.swap t' (bxT w.heap.size f) ts))
  exact ⟨h1.below, fun s hs => h1.ok s (hp.mem_iff.2 hs), fun s hs => h1.inv s (hp.mem_iff.2 hs), fun s hs => h1.new s (hp.mem_iff.2 hs), hp.pairwise h1.apart fun ha k e e2 => ha k e2 e⟩
/-- The reference's Splitter, made. -/
theorem Hold.rnew (h : Hold W w (t :: ts)) (m : Nat) : Hold W (w.alloc (.cells #[.int .i64 (m : Int), .string ⟨#[]⟩, .bool false] 36)) (t :: rpT w.heap.size m false ⟨#[]⟩ :: ts) :=
  (h.add (t := rpT w.heap.size m false ⟨#[]⟩) (keeps_alloc _ _) rpT_ok ⟨heap_alloc_new w _, fun e => (by cases e), by decide⟩ fun k e => by
    have e' : k = w.heap.size := e
    omega).swap
end
/-- Where a list of strings, of numbers, lies, as a later world has it. -/
def AtS (w : World) (b off : Nat) (l : List ByteArray) : Prop := ∀ i x, l[i]? = some x → w.cell? ⟨b, off + i, none⟩ = some (.string x)
def AtI (w : World) (b off : Nat) (l : List Int) : Prop := ∀ i x, l[i]? = some x → w.cell? ⟨b, off + i, none⟩ = some (.int .i64 x)
theorem max_zero (x : Int) (ts : Array TypeId) (t : TypeId) (W : World) : (Builtin.max_ ts t #[.int .i64 x, .int .i64 0]).run Try.prog W = .ok (.int .i64 ((x.toNat : Nat) : Int)) W := by
  rw [run_max_int2]
  have : (if x < 0 then (0 : Int) else x) = ((x.toNat : Nat) : Int) := by split <;> omega
  rw [this]
end Go.Proofs.Ytkogkkjdcackcaa
