/-
  Neighbours of a configuration: the fields' addresses.
-/
import Derived.Test.YtlbmlnmgbjhljaaTG1
set_option linter.unusedVariables false
set_option maxRecDepth 20000
namespace Go.Proofs.Ytlbmlnmgbjhljaa
open Go.RowKit

abbrev pc (b o : Nat) : Value := .pointer (some ⟨b, o, none⟩)
abbrev pxs (b : Nat) : Array Value := #[pc b 0, pc b 1, pc b 3, pc b 5, pc b 7, pc b 8]
def pagg (b : Nat) : Value := .agg (pxs b)
abbrev pz6 : Array Value := #[.pointer none, .pointer none, .pointer none, .pointer none, .pointer none, .pointer none]

theorem pidx (b i : Nat) (hi : i < 6) (w : World) : (Instr.index 40 (pagg b) (.int .i64 i)).run Try.prog w = .ok (.pointer (some ⟨b, toff i, none⟩)) w := by
  obtain rfl | rfl | rfl | rfl | rfl | rfl : i = 0 ∨ i = 1 ∨ i = 2 ∨ i = 3 ∨ i = 4 ∨ i = 5 := by omega
  all_goals kernel_rfl

theorem pinfo : (Try.prog.info? 40).map (·.size) = some 6 := by kernel_rfl

set_option maxHeartbeats 4000000 in
theorem turned_any (b : Nat) (w : World) :
    Calls Try.prog 15 #[.pointer (some ⟨b, 0, none⟩)] w fun e w' => e = .returned (pagg b) ∧ Below w.heap.size w w' := by
  have hg := heap_alloc_last w (.cells pz6 40)
  go_enter Try.func15, Try.ntmps15
  go_upto_region 1 with fail
  refine Kg.quiet_tail 18 Kg.mixed (by kernel_rfl) ?_
  simp only [List.take_succ_cons, List.take_zero, List.drop_succ_cons, List.drop_zero]
  repeat (go_big_quiet_step (fail))
  refine wpQuiet_nil ?_
  obtain ⟨W1, hW1⟩ : ∃ x, x = (w.alloc (.cells pz6 40)).drew := ⟨_, rfl⟩
  have hg1 : W1.heap[w.heap.size]? = some (.cells pz6 40 (0, 0)) := by rw [hW1]; exact hg
  have HB1 : Hid (Below w.heap.size w W1) := by rw [hW1]; exact below_drewN (Below.alloc (Below.refl _ _) (Nat.le_refl _) _) 1
  rw [← hW1]
  clear hg hW1
  go_wp2_with (first
    | (refine wpList_build_as rfl 40 _ rfl (pxs b) (pagg b) rfl (by kernel_rfl) ?_)
    | (refine wpList_store_row rfl 40 _ _ rfl w.heap.size (pxs b) rfl rfl 40 pz6 hg1 pinfo rfl (by kernel_rfl) ?_))
  have hl := run_loadVar_row (P := Try.prog) (W1.setRow w.heap.size (pxs b)) w.heap.size 40 40 (pxs b) (0, 0) _ (setRow_heap W1 _ pz6 (pxs b) 40 (0, 0) hg1) Try.underlying40 rfl pinfo
  go_wp2
  refine bodyPost_ret (results_cell1 Try.results15 rfl hl) rfl ?_
  exact ⟨rfl, below_setRow HB1.out (Nat.le_refl _) _⟩

/-- Configurations as cells. -/
def ccl (l : List Cfg) : List Value := l.flatMap (fun c => (ccells c).toList)
theorem ccl_len (l : List Cfg) : (ccl l).length = l.length * 14 := by
  induction l with
  | nil => rfl
  | cons x l ih =>
    have : ccl (x :: l) = (ccells x).toList ++ ccl l := rfl
    rw [this, List.length_append, ih]
    simp
    omega
theorem ccl_snoc (l : List Cfg) (c : Cfg) : ccl (l ++ [c]) = ccl l ++ (ccells c).toList := by simp [ccl]
theorem ccl_at : ∀ (l : List Cfg) (i j : Nat) (c : Cfg), l[i]? = some c → j < 14 → (ccl l)[i * 14 + j]? = (ccells c)[j]?
  | [], i, j, x, h, _ => by simp at h
  | y :: os, 0, j, x, h, hj => by
    simp at h
    subst h
    have : ccl (y :: os) = (ccells y).toList ++ ccl os := rfl
    rw [this, Nat.zero_mul, Nat.zero_add, List.getElem?_append_left (by simpa using hj), Array.getElem?_toList]
  | y :: os, i + 1, j, x, h, hj => by
    have : ccl (y :: os) = (ccells y).toList ++ ccl os := rfl
    rw [this, List.getElem?_append_right (by simp; omega)]
    have e : (i + 1) * 14 + j - (ccells y).toList.length = i * 14 + j := by simp; omega
    rw [e]
    exact ccl_at os i j x (by simpa using h) hj

/-- v is a list of configurations of one's own. -/
def Cl (w : World) (base : Nat) (v : Value) (l : List Cfg) : Prop := w.ownsRow base 28 14 v l.length (ccl l)

theorem own_sl {w : World} {base n e size : Nat} {v : Value} {xs : List Value} (h : w.ownsRow base e size v n xs) : ∃ a cap, v = .slice a n cap := by
  rcases h.2 with ⟨rfl, rfl⟩ | ⟨g, cap, cur, rfl, _⟩
  · exact ⟨_, _, rfl⟩
  · exact ⟨_, _, rfl⟩

theorem infoC : (Try.prog.info? 28).map (fun i => (i.zero, i.size, i.bytes)) = some (some (.agg #[.int .i64 0, .int .i64 0, .int .i64 0, .int .i64 0, .int .i64 0, .int .i64 0, .int .i64 0, .int .i64 0, .int .i64 0, .int .i64 0, .int .i64 0, .int .i64 0, .int .i64 0, .int .i64 0]), 14, 112) := by kernel_rfl
theorem infoC14 : (Try.prog.info? 28).map (·.size) = some 14 := by kernel_rfl

theorem cells_new (w : World) (cs : Array Value) (t : TypeId) : ∀ (j : Nat) u, cs.toList[j]? = some u → (w.alloc (.cells cs t)).cell? ((⟨w.heap.size, 0, none⟩ : Addr).add j) = some u := by
  intro j u hj
  have hadd : (⟨w.heap.size, 0, none⟩ : Addr).add j = ⟨w.heap.size, j, none⟩ := by unfold Addr.add; split <;> simp_all
  rw [hadd, cell_of_row _ _ j cs t (0, 0) (heap_alloc_new w _)]
  simpa using hj

theorem Cl.below {w w' : World} {base : Nat} {v : Value} {l : List Cfg} (h : Cl w base v l) (hb : Below w.heap.size w w') : Cl w' base v l :=
  Kg.row_keep2 (G := []) h ⟨hb.os, hb.tape, hb.output, hb.size, fun k hk _ => hb.block k hk⟩ (fun _ _ => by simp)

theorem Cl.touch {w w' : World} {base : Nat} {v : Value} {l : List Cfg} {G : List Nat} (h : Cl w base v l) (ht : Kg.Touch G w w') (ha : ∀ k, v.ownBlock = some k → k ∉ G) : Cl w' base v l := Kg.row_keep2 h ht ha

/-- A configuration of which a field is turned. -/
theorem Cfd.turn {w : World} {b : Nat} {c : Cfg} (h : Cfd w b c) (i : Nat) (hi : i < 6) (v : Int) : Cfd (w.setCell ⟨b, toff i, none⟩ (.int .i64 v)) b (tset c v i) := by
  refine ⟨?_⟩
  rw [← tset_cells c v i hi]
  simp [World.setCell, Array.getElem?_modify, h.at_]

end Go.Proofs.Ytlbmlnmgbjhljaa
