/-
  The document's Enqueue.
-/
import Derived.Test.YtemdmpfifcihfaaR38
set_option linter.unusedVariables false
namespace Go.Proofs.Ytemdmpfifcihfaa
open Go.RowKit

theorem step_append_own_at {P : Program} {ops : Array Oper} {o : Oper} {a : Act} {w : World} {K : Act → World → Prop} {Q : Exit → Act → World → Prop} {E : Prop}
    (hgd : o.guard = none) (s x : Operand) (t : TypeId) (ho : o.op = .call { callee := .builtin .append, args := #[s, x], argTypes := #[t, t] })
    (base : Nat) (e : TypeId) (i : TypeInfo) (z : Value) (size bytes : Nat) (ht : P.underlying t = some (.slice e)) (hi : P.info? e = some i) (hz : i.zero = some z)
    (hsize : i.size = size) (hby : i.bytes = bytes) (hzs : z.cells.size = size) (hsz : 0 < size)
    (v : Value) (n : Nat) (xs : List Value) (hs : a.eval s = v) (hown : w.ownsRow base e size v n xs)
    (ad : Addr) (m c : Nat) (news : List Value) (hx : a.eval x = .slice (some ad) m c) (hl : news.length = m * size) (hnews : ∀ j u, news[j]? = some u → w.cell? (ad.add j) = some u) (h1 : ∀ u ∈ news, u.oneCell' = true)
    (h63 : n + m ≤ maxLen) (hbytes : (n + m) * bytes ≤ 140737488355328) (hbase : base ≤ w.heap.size)
    (h : ∀ v' w', w'.ownsRow base e size v' (n + m) (xs ++ news) → w.grownBy w' v.ownBlock → (v'.ownBlock = v.ownBlock ∨ v'.ownBlock = some w.heap.size) → K (a.put o.dst v') w') :
    if Region.wanted o (yielded ops a.tmps) = true then Oper.wp P o a w K Q else E := by
  have hw : Region.wanted o (yielded ops a.tmps) = true := by simp [Region.wanted, hgd]
  rw [if_pos hw]
  obtain ⟨v', w', hr, h2, h3, h4, h5⟩ := run_append_own_at (P := P) w base t o.type e i z size bytes ht hi hz hsize hby hzs hsz v n xs hown ad m c news hl hnews h1 h63 hbytes hbase
  unfold Oper.wp
  simp [execOp, ho, resolve, invoke, builtin, hs, hx, hr, Result.andThen]
  exact h v' w' h2 h3 h5

set_option maxRecDepth 20000 in
theorem renqueue_any (base b : Nat) (x : Int) (S : Sta) (F : List Nat) (w : World) (H : Rfs w base b S F) (hb : base ≤ w.heap.size) (hn : S.qs.length < 8796093022208) :
    Calls Try.prog 59 #[.pointer (some ⟨b, 0, none⟩), .int .i64 x] w fun e w' => e = .returned (.tuple #[]) ∧ ∃ F', Rfs w' base b (S.enqS x) F' ∧ Touch F w w' ∧ Newer w.heap.size F F' := by
  obtain ⟨vt, vs, H, rfl⟩ := H
  have c3 := H.cell3
  obtain ⟨i0, hi0, hz0, hz1, hz2⟩ := info_parts Try.infoInt
  have HH : Hid ((Try.prog.info? 3 = some i0) ∧ i0.zero = some (.int .i64 0) ∧ i0.size = 1 ∧ i0.bytes = 8) := ⟨hi0, hz0, hz1, hz2⟩
  have HR : Hid (Rf w base b vt vs S ∧ base ≤ w.heap.size ∧ S.qs.length < 8796093022208) := ⟨H, hb, hn⟩
  have hq : w.drew.ownsRow base 3 1 (vs (S.T * 2 + 1)) S.qs.length (ints S.qs) := own_keep (k := 0) H.que (fun _ _ => rfl)
  have HQ : Hid (w.drew.ownsRow base 3 1 (vs (S.T * 2 + 1)) S.qs.length (ints S.qs)) := hq
  have had : Calls Try.prog 75 #[.int .i64 x] w.drew fun e w' => e = .returned (.int .i64 (adr x)) ∧ w' = w.drew := raddress_any x _
  have c3a : (w.alloc (.cells #[.int .i64 (adr x)] 3)).cell? ⟨b, 3, none⟩ = some (vs (S.T * 2 + 1)) := (World.cell?_of_block (w := w) (Below.heap_alloc w _ b (heap_lt H.own))).trans c3
  clear H hb hn hi0 hz0 hz1 hz2 hq had
  go_enter Try.func59, Try.ntmps59
  go_wp2_with fail
  go_region_law (first
    | (go_simp; go_at_call 75; refine (raddress_any x _).mono ?_; rintro e wx ⟨rfl, rfl⟩)
    | (refine step_append_own_at rfl (.tmp 8) (.tmp 11) 31 rfl base 3 i0 (.int .i64 0) 1 8 Try.underlying31 HH.out.1 HH.out.2.1 HH.out.2.2.1 HH.out.2.2.2 rfl (by decide) (vs (S.T * 2 + 1)) S.qs.length (ints S.qs) rfl (HQ.out.alloc _) ⟨w.heap.size, 0, none⟩ 1 1 [.int .i64 (adr x)] rfl rfl (cell_one_new _ _ _) (by simp [Value.oneCell']) (by have := HR.out.2.2; simp [maxLen]; omega) (by have := HR.out.2.2; omega) (by have := HR.out.2.1; simp; omega) ?_
       intro v' w1 ho hg hat
       obtain ⟨a', c', ev⟩ := own_slice ho
       subst ev
       have ht : Touch (vs (S.T * 2 + 1)).ownBlock.toList w w1 := ((Touch.drew _ w).trans (Touch.alloc _ _ _)).trans (Touch.grown hg (fun k hk => by simp [hk]))
       obtain ⟨q1, q2, F', q3, q4, q5⟩ := HR.out.1.setQ (v' := .slice a' (S.qs.length + 1) c') (qs' := S.qs ++ [adr x]) ht (by simpa [ints] using ho) (fun k e => by
         rcases hat with h | h
         · exact .inl (h ▸ e)
         · rw [h] at e; simp at e; exact .inr (by omega))
       have HF : Hid (∃ F', Rfs (w1.setCell ⟨b, 3, none⟩ (.slice a' (S.qs.length + 1) c')) base b (S.enqS x) F' ∧ Touch (rfp b vt S.T vs) w (w1.setCell ⟨b, 3, none⟩ (.slice a' (S.qs.length + 1) c')) ∧ Newer w.heap.size (rfp b vt S.T vs) F') := ⟨F', q3, q4, q5⟩
       clear ho hg hat ht q3 q4 q5))
  all_goals go_wp2
  all_goals go_end0
  all_goals exact ⟨rfl, HF.out⟩

end Go.Proofs.Ytemdmpfifcihfaa
