/-
  errors.Unwrap at a failure; package fail's Path over a chain: the ops that are not empty, in new memory.
-/
import Derived.Test.YtdlnfojohkoifaaDoorAlive
import Derived.OwnWalk
import Derived.Laws.AppendOwn
namespace Go.Proofs.YtdlnfojohkoifaaDoor
open Go.RowKit Go.Extern.Stop Go.Stop Go.Extern

theorem unwrapE (b : Nat) (op : ByteArray) (c : Int) (v : Value) (w : World) (hb : w.heap[b]? = some (.cells #[.string op, .int .i64 c, v] 28 (0, 0))) :
    Calls Tryd.prog 24 #[.iface 24 (.pointer (some ⟨b, 0, none⟩))] w fun e w' => e = .returned v ∧ w' = w := by
  have hU := hasUnwrap
  have mU := methodUnwrap
  have hc := unwrap_any b op c v w hb
  go_enter Tryd.func24, Tryd.ntmps24
  go_wp2_with fail
  refine Calls.mono hc ?_
  rintro e w1 ⟨rfl, rfl⟩
  go_wp2
  go_ret
  exact ⟨rfl, rfl⟩

theorem below_idle (p : Addr) (w : World) :
    CallsD Tryd.prog 41 #[.pointer (some p)] .returning w fun e u' w' => e = .returned (.tuple #[]) ∧ u' = .returning ∧ w' = w := by
  refine callsD_of_wpS Tryd.func41 rfl fun c₀ cs hu => ?_
  apply wpS_seq
  apply wpS_region
  simp [wpOpsS, go_sem, recoverD, hu, Tryd.ntmps41, Exit.thenS]
  refine wpS_cond (t := false) (by simp [Act.eval, Array.replicate]) ?_
  simp only [Bool.false_eq_true, if_false]
  refine wpS_of_wp (wp_skip ?_)
  cases c₀
  simp_all [bodyPostS, results, Tryd.results41]

theorem below_one (b : Nat) (op : ByteArray) (c : Int) (v : Value) (w : World) (hv : Errish v) (hb : w.heap[b]? = some (.cells #[.string op, .int .i64 c, v] 28 (0, 0))) :
    Calls Tryd.prog 36 #[.iface 24 (.pointer (some ⟨b, 0, none⟩))] w fun e w' => e = .returned v ∧ Below w.heap.size w w' := by
  have hmf : ∀ (fn : Fn) (first cap : Array Value) (w : World), (Instr.makeFunc fn first cap).run Tryd.prog w = .ok (.func fn first cap) w := fun _ _ _ _ => rfl
  have hbl := lt_of_heap hb
  have hU : ∀ o, Calls Tryd.prog 24 #[.iface 24 (.pointer (some ⟨b, 0, none⟩))] (w.alloc o) fun e w' => e = .returned v ∧ w' = w.alloc o := fun o => unwrapE b op c v _ ((Below.heap_alloc w o b hbl).trans hb)
  have HU : Hid (∀ o, Calls Tryd.prog 24 #[.iface 24 (.pointer (some ⟨b, 0, none⟩))] (w.alloc o) fun e w' => e = .returned v ∧ w' = w.alloc o) := hU
  clear hU hb
  rcases hv with rfl | ⟨t, x, rfl⟩
  all_goals
    go_enter_defers Tryd.func36, Tryd.ntmps36
    go_wp2_with fail
    refine Calls.mono (HU.out _) ?_
    rintro e w1 ⟨rfl, rfl⟩
    clear HU
    go_wp2
    refine leaves_cons (f := 41) (args := #[.pointer (some ⟨w.heap.size, 0, none⟩)]) (by simp) (by simp [go_sem]) ?_
    refine (below_idle ⟨w.heap.size, 0, none⟩ _).mono ?_
    rintro e u' w'' ⟨rfl, rfl, rfl⟩
    refine ⟨_, ?_, rfl, (Below.refl _ _).alloc (Nat.le_refl _) _⟩
    simp [results, Tryd.results36, go_sem]

/-- The ops that are not empty. -/
def opsOf (l : List (ByteArray × Int)) : List ByteArray := (l.map (·.1)).filter fun s => !s.toList.isEmpty
def strs (l : List ByteArray) : List Value := l.map Value.string

theorem info9 : (Tryd.prog.info? 9).map (fun i => (i.zero, i.size, i.bytes)) = some (some (.string ⟨#[]⟩), 1, 16) := by kernel_rfl

theorem ownsRow_kept {w w' : World} {base : Nat} {e : TypeId} {size : Nat} {v : Value} {n : Nat} {xs : List Value} (h : w.ownsRow base e size v n xs) (hk : Below w.heap.size w w') : w'.ownsRow base e size v n xs := by
  refine h.kept (row := none) ⟨hk.os, hk.tape, hk.output, hk.size, fun k hk' _ => hk.block k hk'⟩ ?_
  cases hq : v.ownBlock
  · exact .inl rfl
  · exact .inr (by simp)

set_option maxRecDepth 100000 in
set_option maxHeartbeats 2000000 in
theorem path_chain (v : Value) (l : List (ByteArray × Int)) (w : World) (h : Chain w v l) (hlen : l.length ≤ 1000000) :
    Calls Tryd.prog 23 #[v] w fun e w' => ∃ v', e = .returned v' ∧ w'.ownsRow w.heap.size 9 1 v' (opsOf l).length (strs (opsOf l)) ∧ Below w.heap.size w w' := by
  have hA := assert24
  obtain ⟨i9, hi9, hz9⟩ := Option.map_eq_some_iff.1 info9
  simp only [Prod.mk.injEq] at hz9
  obtain ⟨hz0, hz1, hz2⟩ := hz9
  go_enter Tryd.func23, Tryd.ntmps23
  go_wp2_with fail
  go_loopg [3, 4] l.length (fun k s next wr => ∃ l' done, k = l'.length ∧ Chain w next l' ∧ wr.ownsRow w.heap.size 9 1 s done.length (strs done) ∧ Below w.heap.size w wr ∧ done ++ opsOf l' = opsOf l)
  case atStart => exact ⟨l, [], rfl, h, World.ownsRow_nil _ _ _ _, Below.refl _ _, rfl⟩
  case round =>
    obtain ⟨l', done, hg, hch, hown, hB, hd⟩ := hrel
    cases hch with
    | nil =>
      go_wp2_with fail
      go_ret
      have hd' : done = opsOf l := by simpa [opsOf] using hd
      exact ⟨_, rfl, by rw [← hd']; exact hown, hB⟩
    | @cons b op c v' l2 hb htail =>
      have hbl := lt_of_heap hb
      have hE := htail.errish
      have hsz := hB.size
      have hbw : wr.heap[b]? = some (.cells #[.string op, .int .i64 c, v'] 28 (0, 0)) := (hB.block b hbl).trans hb
      have c0 : wr.cell? ⟨b, 0, none⟩ = some (.string op) := by simp [World.cell?, hbw]
      have hdl : done.length + (opsOf ((op, c) :: l2)).length ≤ 1000000 := by
        have h1 := congrArg List.length hd
        have h2 : (opsOf l).length ≤ l.length := by
          have := List.length_filter_le (fun s : ByteArray => !s.toList.isEmpty) (l.map (·.1))
          simpa [opsOf] using this
        simp only [List.length_append] at h1
        omega
      have HD : Hid (done ++ opsOf ((op, c) :: l2) = opsOf l ∧ gk = ((op, c) :: l2).length) := ⟨hd, hg⟩
      clear hd hg
      cases hem : op.toList.isEmpty with
      | true =>
        have hbo := below_one b op c v' wr hE hbw
        have HO : Hid (Calls Tryd.prog 36 #[.iface 24 (.pointer (some ⟨b, 0, none⟩))] wr fun e w' => e = .returned v' ∧ Below wr.heap.size wr w') := hbo
        clear hbo hbw
        go_wp2_with fail
        refine Calls.mono HO.out ?_
        rintro e w1 ⟨rfl, hB1⟩
        go_wp2_with fail
        obtain ⟨hd, hg⟩ := HD.out
        go_roundg l2.length
        case measure => rw [hg]; simp
        case rel => exact ⟨l2, done, rfl, htail, ownsRow_kept hown hB1, hB.trans (hB1.mono hsz), by rw [← hd]; simp [opsOf, hem]⟩
      | false =>
        have hdl2 : done.length + 1 ≤ 1000000 := by
          have : 1 ≤ (opsOf ((op, c) :: l2)).length := by simp [opsOf, hem]
          omega
        have hge : ∀ g, u3.ownBlock = some g → w.heap.size ≤ g := by
          intro g hq
          rcases hown.2 with ⟨hv, _⟩ | ⟨g', cap, cur, hv, hbg, _⟩
          · rw [hv] at hq; simp [Value.ownBlock] at hq
          · rw [hv] at hq; simp [Value.ownBlock] at hq; omega
        have HB : Hid (w.heap[b]? = some (.cells #[.string op, .int .i64 c, v'] 28 (0, 0))) := hb
        clear hbw hb
        go_wp2_with (at_builtin; refine wpList_append_own _ rfl _ _ 41 rfl w.heap.size 9 i9 (.string ⟨#[]⟩) 1 16 Tryd.underlying41 hi9 hz0 hz1 hz2 rfl (by decide) _ _ _ rfl (hown.alloc _) ⟨wr.heap.size, 0, none⟩ 1 1 [.string op] rfl rfl ?c1 ?c2 ?c3 ?c4 ?c5 ?_)
        case c1 =>
          intro j u hj
          match j, hj with
          | 0, hj => simp at hj; subst hj; simp [Addr.add]
        case c2 => intro u hu; simp at hu; subst hu; rfl
        case c3 => unfold maxLen; omega
        case c4 => omega
        case c5 => simp; omega
        intro v2 w2 hown2 hgrow _
        have hB2 : Below w.heap.size w w2 := (hB.alloc hsz _).grown hgrow (by simp; omega) (fun k hk => hge k hk)
        have hb2 : w2.heap[b]? = some (.cells #[.string op, .int .i64 c, v'] 28 (0, 0)) := (hB2.block b hbl).trans HB.out
        have HO : Hid (Calls Tryd.prog 36 #[.iface 24 (.pointer (some ⟨b, 0, none⟩))] w2 fun e w' => e = .returned v' ∧ Below w2.heap.size w2 w') := below_one b op c v' w2 hE hb2
        clear hb2 hgrow hown hge
        go_wp2_with fail
        refine Calls.mono HO.out ?_
        rintro e w3 ⟨rfl, hB3⟩
        go_wp2_with fail
        obtain ⟨hd, hg⟩ := HD.out
        have hsz2 := hB2.size
        go_roundg l2.length
        case measure => rw [hg]; simp
        case rel =>
          refine ⟨l2, done ++ [op], rfl, htail, ?_, hB2.trans (hB3.mono hsz2), by rw [← hd]; simp [opsOf, hem]⟩
          have := ownsRow_kept hown2 hB3
          simpa [strs] using this
end Go.Proofs.YtdlnfojohkoifaaDoor
