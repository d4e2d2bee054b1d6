/-
  The statements' taker.
-/
import Derived.Test.YtpiemfchjlihfaaGreatDoorA10
import Derived.Deep.RegionLaw
import Derived.StillTailTactics
import Derived.BigQuiet
set_option linter.unusedVariables false
namespace Go.Proofs.YtpiemfchjlihfaaGreatDoor
open Go.RowKit

theorem Tryz.infoInt : (Tryz.prog.info? 3).map (fun i => (i.zero, i.size, i.bytes)) = some (some (.int .i64 0), 1, 8) := by kernel_rfl
theorem Tryz.infoHead : (Tryz.prog.info? 46).map (fun i => (i.zero, i.size, i.bytes)) = some (some (hv 0 0 0 0 0 0 false), 7, 56) := by kernel_rfl

theorem step_append_own_at {P : Program} {ops : Array Oper} {o : Oper} {a : Act} {w : World} {K : Act → World → Prop} {Q : Exit → Act → World → Prop} {E : Prop}
    (hgd : o.guard = none) (s x : Operand) (t : TypeId) (ho : o.op = .call { callee := .builtin .append, args := #[s, x], argTypes := #[t, t] })
    (base : Nat) (e : TypeId) (i : TypeInfo) (z : Value) (size bytes : Nat) (ht : P.underlying t = some (.slice e)) (hi : P.info? e = some i) (hz : i.zero = some z)
    (hsize : i.size = size) (hby : i.bytes = bytes) (hzs : z.cells.size = size) (hsz : 0 < size)
    (v : Value) (n : Nat) (xs : List Value) (hs : a.eval s = v) (hown : w.ownsRow base e size v n xs)
    (ad : Addr) (m c : Nat) (news : List Value) (hx : a.eval x = .slice (some ad) m c) (hl : news.length = m * size) (hnews : ∀ j u, news[j]? = some u → w.cell? (ad.add j) = some u) (h1 : ∀ u ∈ news, u.oneCell' = true)
    (h63 : n + m ≤ maxLen) (hbytes : (n + m) * bytes ≤ 140737488355328) (hbase : base ≤ w.heap.size)
    (h : ∀ v' w', w'.ownsRow base e size v' (n + m) (xs ++ news) → w.grownBy w' v.ownBlock → (v'.ownBlock = v.ownBlock ∨ v'.ownBlock = some w.heap.size) → K (a.put o.dst v') w') :
    if Region.wanted o (yielded ops a.tmps) = true then Oper.wp P o a w K Q else E := by
  have hw : Region.wanted o (yielded ops a.tmps) = true := by simp [Region.wanted, hgd]
  rw [if_pos hw]
  obtain ⟨v', w', hr, h2, h3, h4, h5⟩ := run_append_own_at (P := P) w base t o.type e i z size bytes ht hi hz hsize hby hzs hsz v n xs hown ad m c news hl hnews h1 h63 hbytes hbase
  unfold Oper.wp
  simp [execOp, ho, resolve, invoke, builtin, hs, hx, hr, Result.andThen]
  exact h v' w' h2 h3 h5

theorem row_ne {w : World} {b base t n e s : Nat} {cs : Array Value} {v : Value} {xs : List Value} (hh : w.heap[b]? = some (.cells cs t (0, 0))) (hr : w.ownsRow base e s v n xs) (hte : t ≠ e) : some b ≠ v.ownBlock := by
  intro h
  rcases hr.2 with ⟨rfl, _⟩ | ⟨g, cap, cur, rfl, _, hg, _⟩
  · simp [Value.ownBlock] at h
  · simp only [Value.ownBlock, Option.some.injEq] at h
    subst h
    rw [hh] at hg
    simp only [Option.some.injEq, Obj.cells.injEq] at hg
    exact hte hg.2.1

theorem rows_ne {w : World} {base n m e1 e2 s1 s2 : Nat} {u v : Value} {xs ys : List Value} (h : w.ownsRow base e1 s1 u n xs) (k : w.ownsRow base e2 s2 v m ys) (hte : e1 ≠ e2) (q : Nat) (hq : u.ownBlock = some q) : v.ownBlock ≠ some q := by
  rcases h.2 with ⟨rfl, _⟩ | ⟨g, cap, cur, rfl, _, hg, _⟩
  · simp [Value.ownBlock] at hq
  · simp only [Value.ownBlock, Option.some.injEq] at hq
    subst hq
    exact fun e => row_ne hg k hte e.symm

theorem row_keep {w w' : World} {base n e size : Nat} {v : Value} {xs : List Value} (h : w.ownsRow base e size v n xs) (hk : ∀ k, v.ownBlock = some k → w'.heap[k]? = w.heap[k]?) : w'.ownsRow base e size v n xs := by
  refine ⟨h.1, ?_⟩
  rcases h.2 with hn | ⟨g, cap, cur, rfl, hb', hg, rest⟩
  · exact .inl hn
  · exact .inr ⟨g, cap, cur, rfl, hb', (hk g rfl).trans hg, rest⟩

theorem row_lt {w : World} {base n e size : Nat} {v : Value} {xs : List Value} (h : w.ownsRow base e size v n xs) (k : Nat) (hk : v.ownBlock = some k) : k < w.heap.size := by
  rcases h.2 with ⟨rfl, _⟩ | ⟨g, cap, cur, rfl, hb', hg, rest⟩
  · simp [Value.ownBlock] at hk
  · simp only [Value.ownBlock, Option.some.injEq] at hk
    subst hk
    exact (Array.getElem?_eq_some_iff.1 hg).1

abbrev ints (xs : List Int) : List Value := xs.map (Value.int .i64)

/-- A taker's six cells, from the cell o of block tb on. -/
structure Tk (w : World) (tb T N o : Nat) (f : Nat → Value) (st mo : Int) (xs : List Int) (hs : List Value) (va vh : Value) (dn : Bool) : Prop where
  row : w.rowIs tb T N f
  lt : o + 5 < N
  f0 : f o = va
  f1 : f (o + 1) = vh
  f2 : f (o + 2) = .int .i64 st
  f3 : f (o + 3) = .int .i64 mo
  f4 : f (o + 4) = .bool dn
  f5 : f (o + 5) = .bool false
  ra : w.ownsRow 0 3 1 va xs.length (ints xs)
  rh : w.ownsRow 0 46 7 vh xs.length hs
  ti : T ≠ 3
  th : T ≠ 46

/-- Its blocks. -/
def Tk.foot (tb : Nat) (va vh : Value) : List Nat := tb :: (va.ownBlock.toList ++ vh.ownBlock.toList)

theorem Tk.keep {w w' : World} {tb T N o : Nat} {f : Nat → Value} {st mo : Int} {xs : List Int} {hs : List Value} {va vh : Value} {dn : Bool} (h : Tk w tb T N o f st mo xs hs va vh dn) (k : ∀ q, q ∈ Tk.foot tb va vh → w'.heap[q]? = w.heap[q]?) : Tk w' tb T N o f st mo xs hs va vh dn :=
  ⟨h.row.of_block (k tb (by simp [Tk.foot])), h.lt, h.f0, h.f1, h.f2, h.f3, h.f4, h.f5, row_keep h.ra (fun q hq => k q (by simp [Tk.foot, hq])), row_keep h.rh (fun q hq => k q (by simp [Tk.foot, hq])), h.ti, h.th⟩

theorem Tk.footLt {w : World} {tb T N o : Nat} {f : Nat → Value} {st mo : Int} {xs : List Int} {hs : List Value} {va vh : Value} {dn : Bool} (h : Tk w tb T N o f st mo xs hs va vh dn) (q : Nat) (hq : q ∈ Tk.foot tb va vh) : q < w.heap.size := by
  simp only [Tk.foot, List.mem_cons, List.mem_append, Option.mem_toList] at hq
  rcases hq with rfl | hq | hq
  · exact h.row.lt
  · exact row_lt h.ra q hq
  · exact row_lt h.rh q hq

theorem Tk.below {w w' : World} {tb T N o : Nat} {f : Nat → Value} {st mo : Int} {xs : List Int} {hs : List Value} {va vh : Value} {dn : Bool} (h : Tk w tb T N o f st mo xs hs va vh dn) (l : Below w.heap.size w w') : Tk w' tb T N o f st mo xs hs va vh dn :=
  h.keep (fun q hq => l.block q (h.footLt q hq))

/-- The head that is boxed. -/
structure Hb (w : World) (b : Nat) (cs : Array Value) : Prop where
  at_ : w.heap[b]? = some (.cells cs 46 (0, 0))

theorem ownsRow_succ {w : World} {base n e s : Nat} {v : Value} {xs : List Value} (h : w.ownsRow base e s v (n + 1) xs) : ∃ g cap, v = .slice (some ⟨g, 0, none⟩) (n + 1) cap := by
  rcases h.2 with ⟨_, h0⟩ | ⟨g, cap, cur, rfl, _⟩
  · omega
  · exact ⟨g, cap, rfl⟩

theorem still_tail {P : Program} {id : Nat} {Q : Exit → Act → World → Prop} {a : Act} {w : World} {l : List Oper} (n : Nat) (hm : P.follows .mixedOrders = true) (hB : Region.lexTailB .any l.toArray n = true)
    (h : wpStill P l.toArray w.drew (fun a' => wpList P l.toArray Q (l.drop n) a' w.drew) (l.take n) a) : (Code.region id l.toArray true).wp P Q a w := wp_region_still_tail n hm hB h

theorem still_of_quiet {P : Program} {ops : Array Oper} {w0 : World} {Q : Act → Prop} : ∀ (l : List Oper) (a : Act), wpQuiet P ops (fun w' => w' = w0) Q l a → wpStill P ops w0 Q l a
  | [], _, h => h
  | o :: rest, a, h => by
    unfold wpQuiet at h
    unfold wpStill
    by_cases hw : Region.wanted o (yielded ops a.tmps) = true
    · rw [if_pos hw] at h ⊢
      obtain ⟨v, h1, h2⟩ := h
      have h3 := h1 w0 rfl
      have h4 := still_of_quiet rest _ h2
      unfold Oper.quietAt at h3
      unfold Oper.still
      cases hr : (execOp a.eval o).run P w0 with
      | ok x w' =>
        rw [hr] at h3
        cases x with
        | value u => exact ⟨h3.1, by rw [h3.2]; exact h4⟩
        | skip => exact ⟨h3.1, by rw [← h3.2]; exact h4⟩
        | enter f args => exact ⟨h3.1, v, h3.2, h4⟩
        | _ => exact h3.elim
      | _ => rw [hr] at h3; exact h3.elim
    · rw [if_neg hw] at h ⊢
      exact still_of_quiet rest _ h

theorem quiet_tail {P : Program} {id : Nat} {Q : Exit → Act → World → Prop} {a : Act} {w : World} {l : List Oper} (n : Nat) (hm : P.follows .mixedOrders = true) (hB : Region.lexTailB .any l.toArray n = true)
    (h : wpQuiet P l.toArray (fun w' => w' = w.drew) (fun a' => wpList P l.toArray Q (l.drop n) a' w.drew) (l.take n) a) : (Code.region id l.toArray true).wp P Q a w := still_tail n hm hB (still_of_quiet _ _ h)

theorem mixed : Tryz.prog.follows .mixedOrders = true := by kernel_rfl

theorem cells_new (w : World) (cs : Array Value) (t : TypeId) : ∀ (j : Nat) u, cs.toList[j]? = some u → (w.alloc (.cells cs t)).cell? ((⟨w.heap.size, 0, none⟩ : Addr).add j) = some u := by
  intro j u hj
  have hadd : (⟨w.heap.size, 0, none⟩ : Addr).add j = ⟨w.heap.size, j, none⟩ := by unfold Addr.add; split <;> simp_all
  rw [hadd, cell_of_row _ _ j cs t (0, 0) (heap_alloc_new w _)]
  simpa using hj

theorem grow_cell {w w3 : World} {o : Obj} {v : Value} {tb j : Nat} {u : Value} (hg : (w.alloc o).grownBy w3 v.ownBlock) (htb : tb < w.heap.size) (c : w.cell? ⟨tb, j, none⟩ = some u) (hn : some tb ≠ v.ownBlock) : w3.cell? ⟨tb, j, none⟩ = some u := by
  rw [World.cell?_of_block (w := w.alloc o) (hg.block tb (by simp; omega) hn)]
  exact Lib.cell?_alloc_some o c

theorem grow_frozen {w w3 : World} {o : Obj} {v : Value} {tb j : Nat} (hg : (w.alloc o).grownBy w3 v.ownBlock) (c : w.frozen? ⟨tb, j, none⟩ = false) (htb : tb < w.heap.size) (hn : some tb ≠ v.ownBlock) : w3.frozen? ⟨tb, j, none⟩ = false := by
  rw [World.frozen?_of_block (w := w.alloc o) (hg.block tb (by simp; omega) hn), World.frozen?_of_block (w := w) (Below.heap_alloc _ _ tb htb)]
  exact c

theorem take_mid {w w2 w3 : World} {tb T N o g' cap' n : Nat} {f : Nat → Value} {va vh v3 : Value} {cs : Array Value} {L hs ys : List Value} (row2 : w2.rowIs tb T N (fun j => if j = o then .slice (some ⟨g', 0, none⟩) (n + 1) cap' else f j))
    (ra2 : w2.ownsRow 0 3 1 (.slice (some ⟨g', 0, none⟩) (n + 1) cap') (n + 1) L) (rh2 : w2.ownsRow 0 46 7 vh n hs) (t2 : Touch (Tk.foot tb va vh) w w2) (hnh : some tb ≠ vh.ownBlock) (hrr : ∀ q, vh.ownBlock = some q → q ≠ g') (htg : tb ≠ g') (th : T ≠ 46)
    (hg : (w2.drew.alloc (.cells cs 46)).grownBy w3 vh.ownBlock) (rh3 : w3.ownsRow 0 46 7 v3 (n + 1) ys) (hat : v3.ownBlock = vh.ownBlock ∨ v3.ownBlock = some (w2.heap.size + 1)) (hb : w.heap.size < w2.heap.size) :
    ∃ vh', (w3.setCell ⟨tb, o + 1, none⟩ v3).rowIs tb T N (fun j => if j = o + 1 then vh' else if j = o then .slice (some ⟨g', 0, none⟩) (n + 1) cap' else f j) ∧ (w3.setCell ⟨tb, o + 1, none⟩ v3).ownsRow 0 3 1 (.slice (some ⟨g', 0, none⟩) (n + 1) cap') (n + 1) L ∧ (w3.setCell ⟨tb, o + 1, none⟩ v3).ownsRow 0 46 7 vh' (n + 1) ys ∧ Touch (Tk.foot tb va vh) w (w3.setCell ⟨tb, o + 1, none⟩ v3) ∧ (vh'.ownBlock = vh.ownBlock ∨ ∃ q, vh'.ownBlock = some q ∧ w.heap.size ≤ q) := by
  have kb : ∀ q, q < w2.heap.size → some q ≠ vh.ownBlock → w3.heap[q]? = w2.heap[q]? := fun q hq hn => (hg.block q (by simp; omega) hn).trans (Below.heap_alloc w2.drew _ _ hq)
  have row3 := row2.of_block (kb tb row2.lt hnh)
  have hg2 := row_lt ra2 g' rfl
  have ra3 : w3.ownsRow 0 3 1 (.slice (some ⟨g', 0, none⟩) (n + 1) cap') (n + 1) L := row_keep ra2 (fun q hq => by
    simp only [Value.ownBlock, Option.some.injEq] at hq
    subst hq
    exact kb _ hg2 (fun e => hrr _ e.symm rfl))
  have t3 : Touch (Tk.foot tb va vh) w2 w3 := ⟨hg.os, hg.tape, hg.output, by have := hg.size; simp at this; omega, fun q hq hn => kb q hq (fun e => hn (by simp [Tk.foot, e.symm]))⟩
  refine ⟨v3, (row3.set (o + 1) v3), ?_, ?_, (t2.trans t3).trans (Touch.setCell _ _ _ (by simp [Tk.foot])), ?_⟩
  · exact row_keep ra3 (fun q hq => Below.heap_setCell _ _ _ _ (by
      show q ≠ tb
      simp only [Value.ownBlock, Option.some.injEq] at hq
      omega))
  · exact row_keep rh3 (fun q hq => Below.heap_setCell _ _ _ _ (fun e => by
      obtain ⟨c3, hc3, -, -⟩ := row3
      exact row_ne hc3 rh3 th (by rw [hq, e])))
  · rcases hat with e | e
    · exact .inl e
    · exact .inr ⟨_, e, by omega⟩

theorem foot_newer {n tb : Nat} {va vh va' vh' : Value} (h1 : ∀ q, va'.ownBlock = some q → va.ownBlock = some q ∨ n ≤ q) (h2 : ∀ q, vh'.ownBlock = some q → vh.ownBlock = some q ∨ n ≤ q) : Newer n (Tk.foot tb va vh) (Tk.foot tb va' vh') := by
  intro q hq
  simp only [Tk.foot, List.mem_cons, List.mem_append, Option.mem_toList] at hq ⊢
  rcases hq with rfl | hq | hq
  · exact .inl (.inl rfl)
  · rcases h1 q hq with h | h
    · exact .inl (.inr (.inl h))
    · exact .inr h
  · rcases h2 q hq with h | h
    · exact .inl (.inr (.inr h))
    · exact .inr h

end Go.Proofs.YtpiemfchjlihfaaGreatDoor
