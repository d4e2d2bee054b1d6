/-
  The statements' taker.
-/
import Derived.Test.YtbdkcelggffneaaDoorA10
import Derived.Deep.RegionLaw
import Derived.StillTailTactics
import Derived.BigQuiet
set_option linter.unusedVariables false
namespace Go.Proofs.YtbdkcelggffneaaDoor
open Go.RowKit

theorem Tryd.infoInt : (Tryd.prog.info? 3).map (fun i => (i.zero, i.size, i.bytes)) = some (some (.int .i64 0), 1, 8) := by kernel_rfl
theorem Tryd.infoHead : (Tryd.prog.info? 46).map (fun i => (i.zero, i.size, i.bytes)) = some (some (hv 0 0 0 0 0 0 false), 7, 56) := by kernel_rfl

theorem step_append_own_at {P : Program} {ops : Array Oper} {o : Oper} {a : Act} {w : World} {K : Act → World → Prop} {Q : Exit → Act → World → Prop} {E : Prop}
    (hgd : o.guard = none) (s x : Operand) (t : TypeId) (ho : o.op = .call { callee := .builtin .append, args := #[s, x], argTypes := #[t, t] })
    (base : Nat) (e : TypeId) (i : TypeInfo) (z : Value) (size bytes : Nat) (ht : P.underlying t = some (.slice e)) (hi : P.info? e = some i) (hz : i.zero = some z)
    (hsize : i.size = size) (hby : i.bytes = bytes) (hzs : z.cells.size = size) (hsz : 0 < size)
    (v : Value) (n : Nat) (xs : List Value) (hs : a.eval s = v) (hown : w.ownsRow base e size v n xs)
    (ad : Addr) (m c : Nat) (news : List Value) (hx : a.eval x = .slice (some ad) m c) (hl : news.length = m * size) (hnews : ∀ j u, news[j]? = some u → w.cell? (ad.add j) = some u) (h1 : ∀ u ∈ news, u.oneCell' = true)
    (h63 : n + m ≤ maxLen) (hbytes : (n + m) * bytes ≤ 140737488355328) (hbase : base ≤ w.heap.size)
    (h : ∀ v' w', w'.ownsRow base e size v' (n + m) (xs ++ news) → w.grownBy w' v.ownBlock → (v'.ownBlock = v.ownBlock ∨ v'.ownBlock = some w.heap.size) → K (a.put o.dst v') w') :
    if Region.wanted o (yielded ops a.tmps) = true then Oper.wp P o a w K Q else E := by
  have hw : Region.wanted o (yielded ops a.tmps) = true := by simp [Region.wanted, hgd]
  rw [if_pos hw]
  obtain ⟨v', w', hr, h2, h3, h4, h5⟩ := run_append_own_at (P := P) w base t o.type e i z size bytes ht hi hz hsize hby hzs hsz v n xs hown ad m c news hl hnews h1 h63 hbytes hbase
  unfold Oper.wp
  simp [execOp, ho, resolve, invoke, builtin, hs, hx, hr, Result.andThen]
  exact h v' w' h2 h3 h5

theorem row_ne {w : World} {b base t n e s : Nat} {cs : Array Value} {v : Value} {xs : List Value} (hh : w.heap[b]? = some (.cells cs t (0, 0))) (hr : w.ownsRow base e s v n xs) (hte : t ≠ e) : some b ≠ v.ownBlock := by
  intro h
  rcases hr.2 with ⟨rfl, _⟩ | ⟨g, cap, cur, rfl, _, hg, _⟩
  · simp [Value.ownBlock] at h
  · simp only [Value.ownBlock, Option.some.injEq] at h
    subst h
    rw [hh] at hg
    simp only [Option.some.injEq, Obj.cells.injEq] at hg
    exact hte hg.2.1

theorem rows_ne {w : World} {base n m e1 e2 s1 s2 : Nat} {u v : Value} {xs ys : List Value} (h : w.ownsRow base e1 s1 u n xs) (k : w.ownsRow base e2 s2 v m ys) (hte : e1 ≠ e2) (q : Nat) (hq : u.ownBlock = some q) : v.ownBlock ≠ some q := by
  rcases h.2 with ⟨rfl, _⟩ | ⟨g, cap, cur, rfl, _, hg, _⟩
  · simp [Value.ownBlock] at hq
  · simp only [Value.ownBlock, Option.some.injEq] at hq
    subst hq
    exact fun e => row_ne hg k hte e.symm

theorem row_keep {w w' : World} {base n e size : Nat} {v : Value} {xs : List Value} (h : w.ownsRow base e size v n xs) (hk : ∀ k, v.ownBlock = some k → w'.heap[k]? = w.heap[k]?) : w'.ownsRow base e size v n xs := by
  refine ⟨h.1, ?_⟩
  rcases h.2 with hn | ⟨g, cap, cur, rfl, hb', hg, rest⟩
  · exact .inl hn
  · exact .inr ⟨g, cap, cur, rfl, hb', (hk g rfl).trans hg, rest⟩

theorem row_lt {w : World} {base n e size : Nat} {v : Value} {xs : List Value} (h : w.ownsRow base e size v n xs) (k : Nat) (hk : v.ownBlock = some k) : k < w.heap.size := by
  rcases h.2 with ⟨rfl, _⟩ | ⟨g, cap, cur, rfl, hb', hg, rest⟩
  · simp [Value.ownBlock] at hk
  · simp only [Value.ownBlock, Option.some.injEq] at hk
    subst hk
    exact (Array.getElem?_eq_some_iff.1 hg).1

abbrev ints (xs : List Int) : List Value := xs.map (Value.int .i64)

/-- A taker's six cells, from the cell o of block tb on. -/
structure Tk (w : World) (tb T N o : Nat) (f : Nat → Value) (st mo : Int) (xs : List Int) (hs : List Value) (va vh : Value) (dn : Bool) : Prop where
  row : w.rowIs tb T N f
  lt : o + 5 < N
  f0 : f o = va
  f1 : f (o + 1) = vh
  f2 : f (o + 2) = .int .i64 st
  f3 : f (o + 3) = .int .i64 mo
  f4 : f (o + 4) = .bool dn
  f5 : f (o + 5) = .bool false
  ra : w.ownsRow 0 3 1 va xs.length (ints xs)
  rh : w.ownsRow 0 46 7 vh xs.length hs
  ti : T ≠ 3
  th : T ≠ 46

/-- Its blocks. -/
def Tk.foot (tb : Nat) (va vh : Value) : List Nat := tb :: (va.ownBlock.toList ++ vh.ownBlock.toList)

theorem Tk.keep {w w' : World} {tb T N o : Nat} {f : Nat → Value} {st mo : Int} {xs : List Int} {hs : List Value} {va vh : Value} {dn : Bool} (h : Tk w tb T N o f st mo xs hs va vh dn) (k : ∀ q, q ∈ Tk.foot tb va vh → w'.heap[q]? = w.heap[q]?) : Tk w' tb T N o f st mo xs hs va vh dn :=
  ⟨h.row.of_block (k tb (by simp [Tk.foot])), h.lt, h.f0, h.f1, h.f2, h.f3, h.f4, h.f5, row_keep h.ra (fun q hq => k q (by simp [Tk.foot, hq])), row_keep h.rh (fun q hq => k q (by simp [Tk.foot, hq])), h.ti, h.th⟩

theorem Tk.footLt {w : World} {tb T N o : Nat} {f : Nat → Value} {st mo : Int} {xs : List Int} {hs : List Value} {va vh : Value} {dn : Bool} (h : Tk w tb T N o f st mo xs hs va vh dn) (q : Nat) (hq : q ∈ Tk.foot tb va vh) : q < w.heap.size := by
  simp only [Tk.foot, List.mem_cons, List.mem_append, Option.mem_toList] at hq
  rcases hq with rfl | hq | hq
  · exact h.row.lt
  · exact row_lt h.ra q hq
  · exact row_lt h.rh q hq

theorem Tk.below {w w' : World} {tb T N o : Nat} {f : Nat → Value} {st mo : Int} {xs : List Int} {hs : List Value} {va vh : Value} {dn : Bool} (h : Tk w tb T N o f st mo xs hs va vh dn) (l : Below w.heap.size w w') : Tk w' tb T N o f st mo xs hs va vh dn :=
  h.keep (fun q hq => l.block q (h.footLt q hq))

/-- The head that is boxed. -/
structure Hb (w : World) (b : Nat) (cs : Array Value) : Prop where
  at_ : w.heap[b]? = some (.cells cs 46 (0, 0))

theorem ownsRow_succ {w : World} {base n e s : Nat} {v : Value} {xs : List Value} (h : w.ownsRow base e s v (n + 1) xs) : ∃ g cap, v = .slice (some ⟨g, 0, none⟩) (n + 1) cap := by
  rcases h.2 with ⟨_, h0⟩ | ⟨g, cap, cur, rfl, _⟩
  · omega
  · exact ⟨g, cap, rfl⟩

theorem still_tail {P : Program} {id : Nat} {Q : Exit → Act → World → Prop} {a : Act} {w : World} {l : List Oper} (n : Nat) (hm : P.follows .mixedOrders = true) (hB : Region.lexTailB .any l.toArray n = true)
    (h : wpStill P l.toArray w.drew (fun a' => wpList P l.toArray Q (l.drop n) a' w.drew) (l.take n) a) : (Code.region id l.toArray true).wp P Q a w := wp_region_still_tail n hm hB h

theorem still_of_quiet {P : Program} {ops : Array Oper} {w0 : World} {Q : Act → Prop} : ∀ (l : List Oper) (a : Act), wpQuiet P ops (fun w' => w' = w0) Q l a → wpStill P ops w0 Q l a
  | [], _, h => h
  | o :: rest, a, h => by
    unfold wpQuiet at h
    unfold wpStill
    by_cases hw : Region.wanted o (yielded ops a.tmps) = true
    · rw [if_pos hw] at h ⊢
      obtain ⟨v, h1, h2⟩ := h
      have h3 := h1 w0 rfl
      have h4 := still_of_quiet rest _ h2
      unfold Oper.quietAt at h3
      unfold Oper.still
      cases hr : (execOp a.eval o).run P w0 with
      | ok x w' =>
        rw [hr] at h3
        cases x with
        | value u => exact ⟨h3.1, by rw [h3.2]; exact h4⟩
        | skip => exact ⟨h3.1, by rw [← h3.2]; exact h4⟩
        | enter f args => exact ⟨h3.1, v, h3.2, h4⟩
        | _ => exact h3.elim
      | _ => rw [hr] at h3; exact h3.elim
    · rw [if_neg hw] at h ⊢
      exact still_of_quiet rest _ h

theorem quiet_tail {P : Program} {id : Nat} {Q : Exit → Act → World → Prop} {a : Act} {w : World} {l : List Oper} (n : Nat) (hm : P.follows .mixedOrders = true) (hB : Region.lexTailB .any l.toArray n = true)
    (h : wpQuiet P l.toArray (fun w' => w' = w.drew) (fun a' => wpList P l.toArray Q (l.drop n) a' w.drew) (l.take n) a) : (Code.region id l.toArray true).wp P Q a w := still_tail n hm hB (still_of_quiet _ _ h)

theorem mixed : Tryd.prog.follows .mixedOrders = true := by kernel_rfl

theorem cells_new (w : World) (cs : Array Value) (t : TypeId) : ∀ (j : Nat) u, cs.toList[j]? = some u → (w.alloc (.cells cs t)).cell? ((⟨w.heap.size, 0, none⟩ : Addr).add j) = some u := by
  intro j u hj
  have hadd : (⟨w.heap.size, 0, none⟩ : Addr).add j = ⟨w.heap.size, j, none⟩ := by unfold Addr.add; split <;> simp_all
  rw [hadd, cell_of_row _ _ j cs t (0, 0) (heap_alloc_new w _)]
  simpa using hj

theorem grow_cell {w w3 : World} {o : Obj} {v : Value} {tb j : Nat} {u : Value} (hg : (w.alloc o).grownBy w3 v.ownBlock) (htb : tb < w.heap.size) (c : w.cell? ⟨tb, j, none⟩ = some u) (hn : some tb ≠ v.ownBlock) : w3.cell? ⟨tb, j, none⟩ = some u := by
  rw [World.cell?_of_block (w := w.alloc o) (hg.block tb (by simp; omega) hn)]
  exact Lib.cell?_alloc_some o c

theorem grow_frozen {w w3 : World} {o : Obj} {v : Value} {tb j : Nat} (hg : (w.alloc o).grownBy w3 v.ownBlock) (c : w.frozen? ⟨tb, j, none⟩ = false) (htb : tb < w.heap.size) (hn : some tb ≠ v.ownBlock) : w3.frozen? ⟨tb, j, none⟩ = false := by
  rw [World.frozen?_of_block (w := w.alloc o) (hg.block tb (by simp; omega) hn), World.frozen?_of_block (w := w) (Below.heap_alloc _ _ tb htb)]
  exact c

theorem take_mid {w w2 w3 : World} {tb T N o g' cap' n : Nat} {f : Nat → Value} {va vh v3 : Value} {cs : Array Value} {L hs ys : List Value} (row2 : w2.rowIs tb T N (fun j => if j = o then .slice (some ⟨g', 0, none⟩) (n + 1) cap' else f j))
    (ra2 : w2.ownsRow 0 3 1 (.slice (some ⟨g', 0, none⟩) (n + 1) cap') (n + 1) L) (rh2 : w2.ownsRow 0 46 7 vh n hs) (t2 : Touch (Tk.foot tb va vh) w w2) (hnh : some tb ≠ vh.ownBlock) (hrr : ∀ q, vh.ownBlock = some q → q ≠ g') (htg : tb ≠ g') (th : T ≠ 46)
    (hg : (w2.drew.alloc (.cells cs 46)).grownBy w3 vh.ownBlock) (rh3 : w3.ownsRow 0 46 7 v3 (n + 1) ys) (hat : v3.ownBlock = vh.ownBlock ∨ v3.ownBlock = some (w2.heap.size + 1)) (hb : w.heap.size < w2.heap.size) :
    ∃ vh', (w3.setCell ⟨tb, o + 1, none⟩ v3).rowIs tb T N (fun j => if j = o + 1 then vh' else if j = o then .slice (some ⟨g', 0, none⟩) (n + 1) cap' else f j) ∧ (w3.setCell ⟨tb, o + 1, none⟩ v3).ownsRow 0 3 1 (.slice (some ⟨g', 0, none⟩) (n + 1) cap') (n + 1) L ∧ (w3.setCell ⟨tb, o + 1, none⟩ v3).ownsRow 0 46 7 vh' (n + 1) ys ∧ Touch (Tk.foot tb va vh) w (w3.setCell ⟨tb, o + 1, none⟩ v3) ∧ (vh'.ownBlock = vh.ownBlock ∨ ∃ q, vh'.ownBlock = some q ∧ w.heap.size ≤ q) := by
  have kb : ∀ q, q < w2.heap.size → some q ≠ vh.ownBlock → w3.heap[q]? = w2.heap[q]? := fun q hq hn => (hg.block q (by simp; omega) hn).trans (Below.heap_alloc w2.drew _ _ hq)
  have row3 := row2.of_block (kb tb row2.lt hnh)
  have hg2 := row_lt ra2 g' rfl
  have ra3 : w3.ownsRow 0 3 1 (.slice (some ⟨g', 0, none⟩) (n + 1) cap') (n + 1) L := row_keep ra2 (fun q hq => by
    simp only [Value.ownBlock, Option.some.injEq] at hq
    subst hq
    exact kb _ hg2 (fun e => hrr _ e.symm rfl))
  have t3 : Touch (Tk.foot tb va vh) w2 w3 := ⟨hg.os, hg.tape, hg.output, by have := hg.size; simp at this; omega, fun q hq hn => kb q hq (fun e => hn (by simp [Tk.foot, e.symm]))⟩
  refine ⟨v3, (row3.set (o + 1) v3), ?_, ?_, (t2.trans t3).trans (Touch.setCell _ _ _ (by simp [Tk.foot])), ?_⟩
  · exact row_keep ra3 (fun q hq => Below.heap_setCell _ _ _ _ (by
      show q ≠ tb
      simp only [Value.ownBlock, Option.some.injEq] at hq
      omega))
  · exact row_keep rh3 (fun q hq => Below.heap_setCell _ _ _ _ (fun e => by
      obtain ⟨c3, hc3, -, -⟩ := row3
      exact row_ne hc3 rh3 th (by rw [hq, e])))
  · rcases hat with e | e
    · exact .inl e
    · exact .inr ⟨_, e, by omega⟩

set_option maxRecDepth 4000 in
set_option maxHeartbeats 4000000 in
theorem take_any (tb T N o : Nat) (f : Nat → Value) (st mo : Int) (xs : List Int) (hs : List Value) (va vh : Value) (a s k p r ag t : Int) (h : Bool) (d : Bool) (Hd : Hid (d = decide ((xs.length : Int) + 1 = st ∨ mo < (xs.length : Int) + 1))) (w : World) (hT : Tk w tb T N o f st mo xs hs va vh false) (hlen : xs.length < 1000000) :
    Calls Tryd.prog 48 #[.pointer (some ⟨tb, o, none⟩), .int .i64 a, hv s k p r ag t h] w fun e w' => e = .returned (.bool (!d)) ∧ ∃ va' vh',
      Tk w' tb T N o (fun j => if j = o + 4 then .bool d else if j = o + 1 then vh' else if j = o then va' else f j) st mo (xs ++ [a]) (hs ++ (hcells s k p r ag t h).toList) va' vh' d ∧ Touch (Tk.foot tb va vh) w w' ∧ (∀ q, va'.ownBlock = some q → va.ownBlock = some q ∨ w.heap.size ≤ q) ∧ (∀ q, vh'.ownBlock = some q → vh.ownBlock = some q ∨ w.heap.size ≤ q) := by
  obtain ⟨row, lt, f0, f1, f2, f3, f4, f5, ra, rh, ti, th⟩ := hT
  have htb := row.lt
  have hral := row_lt ra
  have hrhl := row_lt rh
  have row0 := row.alloc (.cells (hcells s k p r ag t h) 46)
  have ra0 := row_keep (w' := w.alloc (.cells (hcells s k p r ag t h) 46)) ra (fun q hq => Below.heap_alloc _ _ _ (hral q hq))
  have rh0 := row_keep (w' := w.alloc (.cells (hcells s k p r ag t h) 46)) rh (fun q hq => Below.heap_alloc _ _ _ (hrhl q hq))
  have hb0 : Hb (w.alloc (.cells (hcells s k p r ag t h) 46)) w.heap.size (hcells s k p r ag t h) := ⟨heap_alloc_new w _⟩
  have t0 : Touch (Tk.foot tb va vh) w (w.alloc (.cells (hcells s k p r ag t h) 46)) := Touch.alloc _ _ _
  have c4 := row0.cell (i := o + 4) (by omega)
  have c0 := row0.cell (i := o) (by omega)
  have z0 := row0.frozen o
  rw [f4] at c4
  rw [f0] at c0
  obtain ⟨i0, hi, hz0, hz1, hz2⟩ := info_parts Tryd.infoInt
  obtain ⟨i1, hj, hy0, hy1, hy2⟩ := info_parts Tryd.infoHead
  have HZ : Hid ((w.alloc (.cells (hcells s k p r ag t h) 46)).heap.size = w.heap.size + 1) := by show _ = _; simp
  go_enter Tryd.func48, Tryd.ntmps48
  go_upto_region 1 with fail
  generalize (w.alloc (.cells (hcells s k p r ag t h) 46)) = w0 at *
  have HH : Hid (Hb w0 w.heap.size (hcells s k p r ag t h) ∧ Touch (Tk.foot tb va vh) w w0) := ⟨hb0, t0⟩
  clear hb0 t0
  go_wp2_with (at_builtin; refine wpList_append_own_at _ rfl _ _ 24 rfl 0 3 i0 (.int .i64 0) 1 8 Tryd.underlying24 hi hz0 hz1 hz2 rfl (by decide) _ _ _ rfl (ra0.alloc _) ⟨w0.heap.size, 0, none⟩ 1 1 [.int .i64 a] rfl rfl (cell_one_new _ _ _) (by simp [Value.oneCell']) (by simp [maxLen]; omega) (by omega) (by omega) ?_)
  intro va' w1 ra1 hgrow _ hat
  obtain ⟨g', cap', rfl⟩ := ownsRow_succ ra1
  have t1 : Touch (Tk.foot tb va vh) w w1 := by
    refine (HH.out.2.trans (Touch.alloc _ _ _)).trans ⟨hgrow.os, hgrow.tape, hgrow.output, hgrow.size, fun q hq hn => hgrow.block q hq (fun e => hn ?_)⟩
    simp [Tk.foot, e.symm]
  have hnv : some tb ≠ va.ownBlock := by obtain ⟨cs, hcs, -, -⟩ := row0; exact row_ne hcs ra0 ti
  have hbv : some w.heap.size ≠ va.ownBlock := row_ne HH.out.1.at_ ra0 (by decide)
  have htb0 := row0.lt
  have hbb0 : w.heap.size < w0.heap.size := (Array.getElem?_eq_some_iff.1 HH.out.1.at_).1
  have kb1 : ∀ q, q < w0.heap.size → some q ≠ va.ownBlock → w1.heap[q]? = w0.heap[q]? := fun q hq hn => (hgrow.block q (by simp; omega) hn).trans (Below.heap_alloc _ _ _ hq)
  have row1 := row0.of_block (kb1 tb htb0 hnv)
  have rh1 : w1.ownsRow 0 46 7 vh xs.length hs := row_keep rh0 (fun q hq => kb1 q (row_lt rh0 q hq) (fun e => rows_ne rh0 ra0 (by decide) q hq e.symm))
  have hb1 : Hb w1 w.heap.size (hcells s k p r ag t h) := ⟨(kb1 _ hbb0 hbv).trans HH.out.1.at_⟩
  have hat' : Value.ownBlock (.slice (some ⟨g', 0, none⟩) (xs.length + 1) cap') = va.ownBlock ∨ w.heap.size ≤ g' := by
    rcases hat with e | e
    · exact .inl e
    · simp [Value.ownBlock, HZ.out] at e; exact .inr (by omega)
  have d0 : w1.cell? ⟨tb, o, none⟩ = some va := by rw [row1.cell (by omega), f0]
  have y0 := row1.frozen o
  have row2 := row1.set o (.slice (some ⟨g', 0, none⟩) (xs.length + 1) cap')
  have htg : tb ≠ g' := by
    obtain ⟨cs, hcs, -, -⟩ := row1
    have := row_ne hcs ra1 ti
    simpa [Value.ownBlock] using this
  have hbg : w.heap.size ≠ tb := by omega
  have ra2 : (w1.setCell ⟨tb, o, none⟩ (.slice (some ⟨g', 0, none⟩) (xs.length + 1) cap')).ownsRow 0 3 1 (.slice (some ⟨g', 0, none⟩) (xs.length + 1) cap') (xs.length + 1) (ints xs ++ [.int .i64 a]) := row_keep ra1 (fun q hq => Below.heap_setCell _ _ _ _ (by show q ≠ tb; simp [Value.ownBlock] at hq; omega))
  have rh2 : (w1.setCell ⟨tb, o, none⟩ (.slice (some ⟨g', 0, none⟩) (xs.length + 1) cap')).ownsRow 0 46 7 vh xs.length hs := row_keep rh1 (fun q hq => Below.heap_setCell _ _ _ _ (fun e => by
    obtain ⟨cs, hcs, -, -⟩ := row1
    exact row_ne hcs rh1 th (by rw [hq, e])))
  have hb2 : Hb (w1.setCell ⟨tb, o, none⟩ (.slice (some ⟨g', 0, none⟩) (xs.length + 1) cap')) w.heap.size (hcells s k p r ag t h) := ⟨(Below.heap_setCell _ _ _ _ hbg).trans hb1.at_⟩
  have t2 : Touch (Tk.foot tb va vh) w (w1.setCell ⟨tb, o, none⟩ (.slice (some ⟨g', 0, none⟩) (xs.length + 1) cap')) := t1.trans (Touch.setCell _ _ _ (by simp [Tk.foot]))
  have M2 : Hid (Touch (Tk.foot tb va vh) w (w1.setCell ⟨tb, o, none⟩ (.slice (some ⟨g', 0, none⟩) (xs.length + 1) cap'))) := t2
  clear t1 t2 hgrow hat kb1 rh1 hb1 row0 ra0 rh0 c4 c0 z0 hnv hbv htb0 hbb0 HH ra1 hi hz0 hz1 hz2 hbg
  go_upto_region 5 with fail
  clear d0 y0 row1
  generalize w1.setCell ⟨tb, o, none⟩ (.slice (some ⟨g', 0, none⟩) (xs.length + 1) cap') = w2 at *
  have htb2 := row2.lt
  have hbb2 : w.heap.size < w2.heap.size := (Array.getElem?_eq_some_iff.1 hb2.at_).1
  have c1 : w2.cell? ⟨tb, o + 1, none⟩ = some vh := by rw [row2.cell (i := o + 1) (by omega), if_neg (by omega), f1]
  have x0 : w2.cell? ⟨w.heap.size, 0, none⟩ = some (.int .u64 s) := cell_of_row _ _ 0 _ _ _ hb2.at_
  have x1 : w2.cell? ⟨w.heap.size, 1, none⟩ = some (.int .i64 k) := cell_of_row _ _ 1 _ _ _ hb2.at_
  have x2 : w2.cell? ⟨w.heap.size, 2, none⟩ = some (.int .i64 p) := cell_of_row _ _ 2 _ _ _ hb2.at_
  have x3 : w2.cell? ⟨w.heap.size, 3, none⟩ = some (.int .i64 r) := cell_of_row _ _ 3 _ _ _ hb2.at_
  have x4 : w2.cell? ⟨w.heap.size, 4, none⟩ = some (.int .i64 ag) := cell_of_row _ _ 4 _ _ _ hb2.at_
  have x5 : w2.cell? ⟨w.heap.size, 5, none⟩ = some (.int .i64 t) := cell_of_row _ _ 5 _ _ _ hb2.at_
  have x6 : w2.cell? ⟨w.heap.size, 6, none⟩ = some (.bool h) := cell_of_row _ _ 6 _ _ _ hb2.at_
  have hnh : some tb ≠ vh.ownBlock := by obtain ⟨cs, hcs, -, -⟩ := row2; exact row_ne hcs rh2 th
  have hrr : ∀ q, vh.ownBlock = some q → q ≠ g' := fun q hq e => by
    have := rows_ne rh2 ra2 (by decide) q hq
    simp [Value.ownBlock] at this
    exact this e.symm
  have hg2 := row_lt ra2 g' rfl
  go_cut [] from 24 to 33 (fun wq => ∃ vh', wq.rowIs tb T N (fun j => if j = o + 1 then vh' else if j = o then .slice (some ⟨g', 0, none⟩) (xs.length + 1) cap' else f j) ∧ wq.ownsRow 0 3 1 (.slice (some ⟨g', 0, none⟩) (xs.length + 1) cap') (xs.length + 1) (ints xs ++ [.int .i64 a]) ∧ wq.ownsRow 0 46 7 vh' (xs.length + 1) (hs ++ (hcells s k p r ag t h).toList) ∧ Touch (Tk.foot tb va vh) w wq ∧ (vh'.ownBlock = vh.ownBlock ∨ ∃ q, vh'.ownBlock = some q ∧ w.heap.size ≤ q))
  case first =>
    have rh2d : w2.drew.ownsRow 0 46 7 vh xs.length hs := rh2
    have htb2d : tb < w2.drew.heap.size := htb2
    have c1d : w2.drew.cell? ⟨tb, o + 1, none⟩ = some vh := c1
    have z1d : w2.drew.frozen? ⟨tb, o + 1, none⟩ = false := row2.frozen (o + 1)
    have q1 : Hid (∀ u ∈ (hcells s k p r ag t h).toList, u.oneCell' = true) := by
      show ∀ u ∈ (hcells s k p r ag t h).toList, u.oneCell' = true
      simp [Value.oneCell']
    have q2 : Hid (xs.length + 1 ≤ maxLen) := by show _ ≤ _; simp [maxLen]; omega
    have q3 : (xs.length + 1) * 56 ≤ 140737488355328 := by omega
    have q4 : Hid (∀ (j : Nat) u, (hcells s k p r ag t h).toList[j]? = some u → (w2.drew.alloc (.cells (hcells s k p r ag t h) 46)).cell? ((⟨w2.heap.size, 0, none⟩ : Addr).add j) = some u) := cells_new w2.drew (hcells s k p r ag t h) 46
    go_region_law (refine step_append_own_at rfl (.tmp 28) (.tmp 30) 60 rfl 0 46 i1 (hv 0 0 0 0 0 0 false) 7 56 Tryd.underlying60 hj hy0 hy1 hy2 rfl (by decide) vh xs.length hs rfl (rh2d.alloc _) ⟨w2.heap.size, 0, none⟩ 1 1 (hcells s k p r ag t h).toList rfl rfl q4.out q1.out q2.out q3 (Nat.zero_le _) ?_; intro vh' w3 rh3 hgrow hat3; have hgrow' : (w2.drew.alloc (.cells (hcells s k p r ag t h) 46)).grownBy w3 vh.ownBlock := hgrow; have d1 := grow_cell hgrow' htb2d c1d hnh; have y1 := grow_frozen hgrow' z1d htb2d hnh; obtain ⟨g3, cap3, rfl⟩ := ownsRow_succ rh3)
    all_goals
      go_wp2_with fail
      go_meet
      exact take_mid row2 ra2 rh2 M2.out hnh hrr htg th hgrow' rh3 (by simpa using hat3) hbb2
  case rest =>
  obtain ⟨vh', row3, ra3, rh3, t3, hat3⟩ := hcut
  clear M2 row2 ra2 rh2 hb2 c1 x0 x1 x2 x3 x4 x5 x6 hnh hrr hg2 hj hy0 hy1 hy2 htb2 hbb2
  generalize wc = w4 at *
  obtain ⟨g4, cap4, rfl⟩ := ownsRow_succ rh3
  have c0 : w4.cell? ⟨tb, o, none⟩ = some (.slice (some ⟨g', 0, none⟩) (xs.length + 1) cap') := by rw [row3.cell (i := o) (by omega), if_neg (by omega), if_pos rfl]
  have c2 : w4.cell? ⟨tb, o + 2, none⟩ = some (.int .i64 st) := by rw [row3.cell (i := o + 2) (by omega), if_neg (by omega), if_neg (by omega), f2]
  have c3 : w4.cell? ⟨tb, o + 3, none⟩ = some (.int .i64 mo) := by rw [row3.cell (i := o + 3) (by omega), if_neg (by omega), if_neg (by omega), f3]
  have c4 : w4.cell? ⟨tb, o + 4, none⟩ = some (.bool false) := by rw [row3.cell (i := o + 4) (by omega), if_neg (by omega), if_neg (by omega), f4]
  have z4 := row3.frozen (o + 4)
  go_upto_region 6 with fail
  go_cut [] from 34 to 58 (fun wq => wq = (w4.setCell ⟨tb, o + 4, none⟩ (.bool (decide ((xs.length : Int) + 1 = st ∨ mo < (xs.length : Int) + 1)))).drew)
  case first =>
    clear row3 ra3 rh3 t3 hat3 HZ hat' row f0 f1 f2 f3 f4 f5 ra rh ti th htb hral hrhl htg
    by_cases q1 : (xs.length : Int) + 1 = st
    · subst q1
      refine quiet_tail 25 mixed (by kernel_rfl) ?_
      simp only [List.take_succ_cons, List.take_zero, List.drop_succ_cons, List.drop_zero]
      repeat (go_big_quiet_step (fail))
      refine wpQuiet_nil ?_
      all_goals
        go_wp2_with fail
        go_meet
        simp
    · have q3 : ((xs.length : Int) + 1 == st) = false := beq_eq_false_iff_ne.2 q1
      by_cases q2 : mo < (xs.length : Int) + 1
      · have q4 : decide (mo < (xs.length : Int) + 1) = true := decide_eq_true q2
        refine quiet_tail 25 mixed (by kernel_rfl) ?_
        simp only [List.take_succ_cons, List.take_zero, List.drop_succ_cons, List.drop_zero]
        repeat (go_big_quiet_step (fail))
        refine wpQuiet_nil ?_
        all_goals
          go_wp2_with fail
          go_meet
          simp [q1, q4]
      · have q4 : decide (mo < (xs.length : Int) + 1) = false := decide_eq_false q2
        refine quiet_tail 25 mixed (by kernel_rfl) ?_
        simp only [List.take_succ_cons, List.take_zero, List.drop_succ_cons, List.drop_zero]
        repeat (go_big_quiet_step (fail))
        refine wpQuiet_nil ?_
        all_goals
          go_wp2_with fail
          go_meet
          simp [q1, q4]
  case rest =>
  rw [← Hd.out] at hcut
  clear c0 c2 c3 c4 z4
  have row5 : wc.rowIs tb T N (fun j => if j = o + 4 then .bool d else if j = o + 1 then .slice (some ⟨g4, 0, none⟩) (xs.length + 1) cap4 else if j = o then .slice (some ⟨g', 0, none⟩) (xs.length + 1) cap' else f j) := by rw [hcut]; exact (row3.set (o + 4) _).drew
  have hk : ∀ q, q ≠ tb → wc.heap[q]? = w4.heap[q]? := fun q hq => by rw [hcut]; exact Below.heap_setCell _ _ _ _ hq
  have ra5 := row_keep (w' := wc) ra3 (fun q hq => hk q (by simp [Value.ownBlock] at hq; omega))
  have rh5 := row_keep (w' := wc) rh3 (fun q hq => hk q (fun e => by
    obtain ⟨c3, hc3, -, -⟩ := row3
    exact row_ne hc3 rh3 th (by rw [hq, e])))
  have t5 : Touch (Tk.foot tb va vh) w wc := by
    rw [hcut]
    have := t3.trans (Touch.setCell (F := Tk.foot tb va vh) w4 ⟨tb, o + 4, none⟩ (.bool d) (by simp [Tk.foot]))
    exact ⟨this.os, this.tape, this.output, this.size, this.block⟩
  clear hcut row3 ra3 rh3 t3 hk
  generalize wc = w5 at *
  have c4 : w5.cell? ⟨tb, o + 4, none⟩ = some (.bool d) := by rw [row5.cell (i := o + 4) (by omega), if_pos rfl]
  go_wp2
  go_ret
  refine ⟨rfl, .slice (some ⟨g', 0, none⟩) (xs.length + 1) cap', .slice (some ⟨g4, 0, none⟩) (xs.length + 1) cap4, ⟨row5, lt, ?_, ?_, ?_, ?_, ?_, ?_, ?_, ?_, ti, th⟩, t5, ?_⟩
  · rw [if_neg (by omega), if_neg (by omega), if_pos rfl]
  · rw [if_neg (by omega), if_pos rfl]
  · rw [if_neg (by omega), if_neg (by omega), if_neg (by omega), f2]
  · rw [if_neg (by omega), if_neg (by omega), if_neg (by omega), f3]
  · rw [if_pos rfl]
  · rw [if_neg (by omega), if_neg (by omega), if_neg (by omega), f5]
  · simpa [ints] using ra5
  · simpa using rh5
  · refine ⟨fun q hq => ?_, fun q hq => ?_⟩
    · simp only [Value.ownBlock, Option.some.injEq] at hq
      subst hq
      rcases hat' with e | e
      · exact .inl e.symm
      · exact .inr e
    · simp only [Value.ownBlock, Option.some.injEq] at hq
      subst hq
      rcases hat3 with e | ⟨q, e, hq⟩
      · exact .inl e.symm
      · simp only [Value.ownBlock, Option.some.injEq] at e
        exact .inr (by omega)

theorem foot_newer {n tb : Nat} {va vh va' vh' : Value} (h1 : ∀ q, va'.ownBlock = some q → va.ownBlock = some q ∨ n ≤ q) (h2 : ∀ q, vh'.ownBlock = some q → vh.ownBlock = some q ∨ n ≤ q) : Newer n (Tk.foot tb va vh) (Tk.foot tb va' vh') := by
  intro q hq
  simp only [Tk.foot, List.mem_cons, List.mem_append, Option.mem_toList] at hq ⊢
  rcases hq with rfl | hq | hq
  · exact .inl (.inl rfl)
  · rcases h1 q hq with h | h
    · exact .inl (.inr (.inl h))
    · exact .inr h
  · rcases h2 q hq with h | h
    · exact .inl (.inr (.inr h))
    · exact .inr h

end Go.Proofs.YtbdkcelggffneaaDoor
