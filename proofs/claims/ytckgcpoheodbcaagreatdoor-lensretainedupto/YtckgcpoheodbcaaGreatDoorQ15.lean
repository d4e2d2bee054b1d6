import Derived.Test.YtckgcpoheodbcaaGreatDoorQ14
import Derived.Test.YtckgcpoheodbcaaGreatDoorQ10
set_option linter.unusedVariables false
set_option maxHeartbeats 8000000
set_option maxRecDepth 20000
namespace Go.Proofs.YtckgcpoheodbcaaGreatDoor
open Go.RowKit Go.Shelf
theorem step_append_own_at {P : Program} {ops : Array Oper} {o : Oper} {a : Act} {w : World} {K : Act → World → Prop} {Q : Exit → Act → World → Prop} {E : Prop}
  (hgd : o.guard = none) (s x : Operand) (t : TypeId) (ho : o.op = .call { callee := .builtin .append, args := #[s, x], argTypes := #[t, t] })
  (base : Nat) (e : TypeId) (i : TypeInfo) (z : Value) (size bytes : Nat) (ht : P.underlying t = some (.slice e)) (hi : P.info? e = some i) (hz : i.zero = some z)
  (hsize : i.size = size) (hby : i.bytes = bytes) (hzs : z.cells.size = size) (hsz : 0 < size)
  (v : Value) (n : Nat) (xs : List Value) (hs : a.eval s = v) (hown : w.ownsRow base e size v n xs)
  (ad : Addr) (m c : Nat) (news : List Value) (hx : a.eval x = .slice (some ad) m c) (hl : news.length = m * size) (hnews : ∀ j u, news[j]? = some u → w.cell? (ad.add j) = some u) (h1 : ∀ u ∈ news, u.oneCell' = true)
  (h63 : n + m ≤ maxLen) (hbytes : (n + m) * bytes ≤ 140737488355328) (hbase : base ≤ w.heap.size)
  (h : ∀ v' w', w'.ownsRow base e size v' (n + m) (xs ++ news) → w.grownBy w' v.ownBlock → (v'.ownBlock = v.ownBlock ∨ v'.ownBlock = some w.heap.size) → K (a.put o.dst v') w') :
  if Region.wanted o (yielded ops a.tmps) = true then Oper.wp P o a w K Q else E := by
 have hw : Region.wanted o (yielded ops a.tmps) = true := by simp [Region.wanted, hgd]
 rw [if_pos hw]
 obtain ⟨v', w', hr, h2, h3, h4, h5⟩ := run_append_own_at (P := P) w base t o.type e i z size bytes ht hi hz hsize hby hzs hsz v n xs hown ad m c news hl hnews h1 h63 hbytes hbase
 unfold Oper.wp
 simp [execOp, ho, resolve, invoke, builtin, hs, hx, hr, Result.andThen]
 exact h v' w' h2 h3 h5
def oflat (L : List OL) : List Value := L.flatMap (fun x => x.cells.toList)
def mflat (m : Nat) : List Value := (List.range m).flatMap (fun j => (mob j).toList)
theorem oflat_len (L : List OL) : (oflat L).length = L.length * 5 := by
 induction L with
 | nil => rfl
 | cons x r ih => simp only [oflat, List.flatMap_cons, List.length_append, List.length_cons] at ih ⊢; rw [ih]; simp; omega
theorem mflat_len (m : Nat) : (mflat m).length = m * 5 := by
 induction m with
 | zero => rfl
 | succ m ih => simp only [mflat, List.range_succ, List.flatMap_append, List.length_append] at ih ⊢; rw [ih]; simp; omega
theorem oflat_snoc (L : List OL) (x : OL) : oflat (L ++ [x]) = oflat L ++ x.cells.toList := by simp [oflat]
theorem mflat_two (m : Nat) : mflat (2 * m + 2) = mflat (2 * m) ++ ((mob (2 * m)).toList ++ (mob (2 * m + 1)).toList) := by
 unfold mflat
 rw [show 2 * m + 2 = (2 * m + 1) + 1 by omega, List.range_succ, List.range_succ]
 simp
theorem oflat_at {L : List OL} {i : Nat} {x : OL} (h : L[i]? = some x) (j : Nat) (hj : j < 5) : (oflat L)[i * 5 + j]? = x.cells[j]? := by
 induction L generalizing i with
 | nil => simp at h
 | cons y r ih =>
  have hl : (y.cells.toList).length = 5 := rfl
  simp only [oflat, List.flatMap_cons]
  cases i with
  | zero =>
   simp at h
   subst h
   rw [List.getElem?_append_left (by rw [hl]; omega), Nat.zero_mul, Nat.zero_add, Array.getElem?_toList]
  | succ i =>
   rw [List.getElem?_append_right (by rw [hl]; omega), hl, show (i + 1) * 5 + j - 5 = i * 5 + j by omega]
   exact ih (by simpa using h)
theorem mflat_at {m i : Nat} (h : i < m) (j : Nat) (hj : j < 5) : (mflat m)[i * 5 + j]? = (mob i)[j]? := by
 induction m with
 | zero => omega
 | succ m ih =>
  have hs : mflat (m + 1) = mflat m ++ (mob m).toList := by simp [mflat, List.range_succ]
  rw [hs]
  by_cases e : i < m
  ·rw [List.getElem?_append_left (by rw [mflat_len]; omega)]
   exact ih e
  ·have e2 : i = m := by omega
   subst e2
   rw [List.getElem?_append_right (by rw [mflat_len]; omega), mflat_len, Nat.add_sub_cancel_left, Array.getElem?_toList]
theorem cells_new (w : World) (cs : Array Value) (t : TypeId) : ∀ j u, cs.toList[j]? = some u → (w.alloc (.cells cs t)).cell? ((⟨w.heap.size, 0, none⟩ : Addr).add j) = some u := by
 intro j u hu
 have e := cell_of_row _ _ j _ _ _ (heap_alloc_new w (.cells cs t (0, 0)))
 rw [Addr.add_lit, Nat.zero_add, e, ← Array.getElem?_toList]
 exact hu
def PO (lo : Nat) (w : World) (N : Nat → Nat) (F : List Nat) (x : OL) : Prop := (∃ b, Got w N F lo b .i64 x.vp x.o.ps) ∧ ∃ b, Got w N F lo b .u64 x.vr (x.o.rs.map Int.ofNat)
theorem PO.stp {lo : Nat} {w w' : World} {N N' : Nat → Nat} {F F' : List Nat} {x : OL} (h : PO lo w N F x) (s : Stp w w' F F' N N') : PO lo w' N' F' x := by
 obtain ⟨⟨b, h1⟩, b', h2⟩ := h
 exact ⟨⟨b, h1.stp s⟩, b', h2.stp s⟩
structure Ino (w0 w : World) (n1 R : Nat) (N0 N : Nat → Nat) (S0 S : RS) (X : List Nat) (v : Value) (L : List OL) (m : Nat) : Prop where
 row : w.ownsRow w0.heap.size 61 5 v (L.length + m) (oflat L ++ mflat m)
 bd : Bd w n1 R N S (v.ownBlock.toList ++ X)
 st : Stp w0 w (X ++ S0.F R) ((v.ownBlock.toList ++ X) ++ S.F R) N0 N
 tc : Kg.Touch (S0.F R) w0 w
 p : ∀ x, x ∈ L → PO n1 w N ((v.ownBlock.toList ++ X) ++ S.F R) x
section
variable {w0 w w' : World} {n1 R : Nat} {N0 N N' : Nat → Nat} {S0 S S' : RS} {X : List Nat} {v : Value} {L : List OL} {m : Nat}
theorem Ino.start (h : Bd w0 n1 R N0 S0 X) : Ino w0 (w0.alloc (.cells #[] 61)) n1 R N0 N0 S0 S0 X (.slice (some ⟨w0.heap.size, 0, none⟩) 0 0) [] 0 := by
 have b : Below w0.heap.size w0 (w0.alloc (.cells #[] 61)) := Below.alloc (Below.refl _ _) (Nat.le_refl _) _
 have hsz : (w0.alloc (.cells #[] 61)).heap.size = w0.heap.size + 1 := by simp
 have hm := h.move (N' := N0) (X' := [w0.heap.size] ++ X) (Kg.Touch.of_below b X) (fun k hk => by
  rcases List.mem_append.1 hk with h1 | h1
  ·simp at h1; exact ⟨by omega, .inr (by omega)⟩
  ·exact ⟨Nat.lt_of_lt_of_le (h.x k h1).1 b.size, .inl h1⟩) (fun _ _ _ => rfl) (fun k hk => h.d k (Nat.le_trans b.size hk)) (fun k hk => by
  rcases List.mem_append.1 hk with h1 | h1
  ·simp at h1; exact h.d k (by omega)
  ·exact h.z k (List.mem_append_left _ h1))
 exact ⟨⟨by simp [oflat, mflat], .inr ⟨_, 0, #[], rfl, Nat.le_refl _, heap_alloc_new w0 _, by simp, by simp [maxLen], by simp, by simp [oflat, mflat]⟩⟩, hm.1, hm.2, Kg.Touch.of_below b _, fun x hx => by simp at hx⟩
theorem Ino.sub (h : Ino w0 w n1 R N0 N S0 S X v L m) {d : Nat} {G : World → (Nat → Nat) → List Nat → Prop} (k : RPost n1 R N S (v.ownBlock.toList ++ X) w w' d G) :
  ∃ N' S', Ino w0 w' n1 R N0 N' S0 S' X v L m ∧ G w' N' ((v.ownBlock.toList ++ X) ++ S'.F R) ∧ S'.tot = S.tot + d ∧ Stp w w' ((v.ownBlock.toList ++ X) ++ S.F R) ((v.ownBlock.toList ++ X) ++ S'.F R) N N' := by
 obtain ⟨N', S', h1, h2, h3, h4, h5⟩ := k
 refine ⟨N', S', ⟨Kg.row_keep2 h.row h4 (fun q hq => (h.bd.x q (List.mem_append_left _ (by rw [Option.mem_toList]; exact hq))).2), h2, h.st.trans h3, h.tc.then h4 (fun q hq => ?_), fun x hx => (h.p x hx).stp h3⟩, h1, h5, h3⟩
 rcases h.st.f q (List.mem_append_right _ hq) with h6 | h6
 ·rcases List.mem_append.1 h6 with h7 | h7
  ·exact absurd hq (h.bd.x q (List.mem_append_right _ h7)).2
  ·exact .inl h7
 ·exact .inr h6
theorem Ino.below (h : Ino w0 w n1 R N0 N S0 S X v L m) (b : Below w.heap.size w w') : Ino w0 w' n1 R N0 N S0 S X v L m := by
 have s := (h.bd.laid b (fun _ _ => rfl) (fun k hk => h.bd.d k (Nat.le_trans b.size hk))).2
 exact ⟨Kg.row_keep2 h.row (Kg.Touch.of_below b []) (fun _ _ => by simp), h.bd.below b, h.st.trans s, h.tc.trans (Kg.Touch.of_below b _), fun x hx => (h.p x hx).stp s⟩
theorem Ino.grow (h : Ino w0 w n1 R N0 N S0 S X v L m) {v' : Value} {L' : List OL} {m' : Nat} (t : Kg.Touch v.ownBlock.toList w w') (hat : v'.ownBlock = v.ownBlock ∨ v'.ownBlock = some w.heap.size) (hrow : w'.ownsRow w0.heap.size 61 5 v' (L'.length + m') (oflat L' ++ mflat m'))
  (hL : ∀ x, x ∈ L' → x ∈ L ∨ PO n1 w N ((v.ownBlock.toList ++ X) ++ S.F R) x) : Ino w0 w' n1 R N0 N S0 S X v' L' m' := by
 have hm := h.bd.move (N' := N) (X' := v'.ownBlock.toList ++ X) (t.mono (fun k hk => .inl (List.mem_append_left _ hk))) (fun k hk => by
  rcases List.mem_append.1 hk with h1 | h1
  ·rw [Option.mem_toList] at h1
   refine ⟨(hrow.lt k h1).2, ?_⟩
   rcases hat with e | e
   ·exact .inl (List.mem_append_left _ (by rw [Option.mem_toList, ← e]; exact h1))
   ·rw [e] at h1
    exact .inr (Nat.le_of_eq (Option.some.inj h1))
  ·exact ⟨Nat.lt_of_lt_of_le (h.bd.x k (List.mem_append_right _ h1)).1 t.size, .inl (List.mem_append_right _ h1)⟩) (fun _ _ _ => rfl) (fun k hk => h.bd.d k (Nat.le_trans t.size hk)) (fun k hk => by
  rcases List.mem_append.1 hk with h1 | h1
  ·rw [Option.mem_toList] at h1
   rcases hat with e | e
   ·exact h.bd.z k (List.mem_append_left _ (List.mem_append_left _ (by rw [Option.mem_toList, ← e]; exact h1)))
   ·rw [e] at h1
    exact h.bd.d k (Nat.le_of_eq (Option.some.inj h1))
  ·exact h.bd.z k (List.mem_append_left _ (List.mem_append_right _ h1)))
 refine ⟨hrow, hm.1, h.st.trans hm.2, h.tc.then t (fun q hq => ?_), fun x hx => ?_⟩
 ·rw [Option.mem_toList] at hq
  exact .inr (h.row.lt q hq).1
 ·rcases hL x hx with h1 | h1
  ·exact (h.p x h1).stp hm.2
  ·exact h1.stp hm.2
theorem Ino.fin {b c : Nat} (h : Ino w0 w n1 R N0 N S0 S X (.slice (some ⟨b, 0, none⟩) (L.length + 8) c) L 8) (hX : b ∉ X) (hn1 : n1 ≤ w0.heap.size) :
  Bd w n1 R (upN N b (L.length * 5)) S X ∧ Stp w0 w (X ++ S0.F R) (X ++ S.F R) N0 (upN N b (L.length * 5)) ∧ b < w.heap.size ∧ b ∉ X ++ S.F R ∧ n1 ≤ b ∧ upN N b (L.length * 5) b = L.length * 5 ∧
   (∀ (i : Nat) x, L[i]? = some x → (∀ j, j < 5 → w.cell? ⟨b, i * 5 + j, none⟩ = x.cells[j]?) ∧ PO n1 w (upN N b (L.length * 5)) (X ++ S.F R) x) ∧ (∀ j, j < 8 → ∀ i, i < 5 → w.cell? ⟨b, (L.length + j) * 5 + i, none⟩ = (mob j)[i]?) ∧ ∀ f, w.frozen? ⟨b, f, none⟩ = false := by
 have hb : (Value.slice (some ⟨b, 0, none⟩) (L.length + 8) c).ownBlock = some b := rfl
 have hbl := h.row.lt b hb
 have hbF : b ∉ S.F R := (h.bd.x b (List.mem_append_left _ (by rw [Option.mem_toList]; exact hb))).2
 have hm := h.bd.move (N' := upN N b (L.length * 5)) (X' := X) (Kg.Touch.refl _ _) (fun k hk => ⟨(h.bd.x k (List.mem_append_right _ hk)).1, .inl (List.mem_append_right _ hk)⟩) (fun k hk hx => by
  unfold upN
  rw [if_neg (fun (e : k = b) => hx (List.mem_append_left _ (by rw [e]; simp [Value.ownBlock])))]) (fun k hk => by
  unfold upN
  rw [if_neg (by omega)]
  exact h.bd.d k hk) (fun k hk => by
  unfold upN
  rw [if_neg (fun (e : k = b) => hX (e ▸ hk))]
  exact h.bd.z k (List.mem_append_left _ (List.mem_append_right _ hk)))
 have hc : ∀ (j : Nat) u, (oflat L ++ mflat 8)[j]? = some u → w.cell? ⟨b, j, none⟩ = some u := fun j u hu => by
  have h9 := h.row.cells (g := b) rfl j u hu
  rw [Addr.add_lit, Nat.zero_add] at h9
  exact h9
 refine ⟨hm.1, h.st.trans hm.2, hbl.2, fun hmem => (List.mem_append.1 hmem).elim hX hbF, Nat.le_trans hn1 hbl.1, by unfold upN; rw [if_pos rfl], fun i x hx => ⟨fun j hj => ?_, (h.p x (List.mem_of_getElem? hx)).stp hm.2⟩, fun j hj i hi => ?_, fun f => ?_⟩
 ·have hil := (List.getElem?_eq_some_iff.1 hx).1
  have hu : x.cells[j]? = some (x.cells[j]'(by simpa using hj)) := Array.getElem?_eq_getElem (by simpa using hj)
  rw [hu]
  refine hc _ _ ?_
  rw [List.getElem?_append_left (by rw [oflat_len]; omega), oflat_at hx j hj, hu]
 ·have hu : (mob j)[i]? = some ((mob j)[i]'(by simpa using hi)) := Array.getElem?_eq_getElem (by simpa using hi)
  rw [hu]
  refine hc _ _ ?_
  rw [List.getElem?_append_right (by rw [oflat_len]; omega), oflat_len, show (L.length + j) * 5 + i - L.length * 5 = j * 5 + i by omega, mflat_at hj i hi, hu]
 ·rcases h.row.2 with ⟨h1, h2⟩ | ⟨g', cap', cur, h1, h2, h3, h4⟩
  ·cases h1
  ·cases h1
   exact Kg.heap_frozen h3 f
end
end Go.Proofs.YtckgcpoheodbcaaGreatDoor
namespace Go.Proofs.YtckgcpoheodbcaaGreatDoor
open Go.RowKit Go.Shelf Go.Proofs.YtckgcpoheodbcaaGreatDoor.Lp
theorem infoL17 : (Tryz.prog.info? 24).map (fun i => (i.zero, i.size, i.bytes)) = some (some (.slice none 0 0), 1, 24) := by kernel_rfl
def sl17 (a : Option Addr) (n cap f : Nat) : Value := .slice (if cap = f then a else a.map (·.add f)) (n - f) (cap - f)
theorem sl17_lrd {n0 : Nat} {w : World} {a : Option Addr} {n cap f : Nat} {l : List Int} (h : Lrd n0 w (.slice a n cap) .i64 l) (hf : f ≤ l.length) : Lrd n0 w (sl17 a n cap f) .i64 (l.drop f) := by
 obtain ⟨a', cap', e, hc, h3⟩ := h
 simp only [Value.slice.injEq] at e
 obtain ⟨rfl, rfl, rfl⟩ := e
 refine ⟨_, _, by unfold sl17; rw [List.length_drop], by rw [List.length_drop]; omega, fun j z hz => ?_⟩
 rw [List.getElem?_drop] at hz
 obtain ⟨q, off, rfl, h4, h5⟩ := h3 (f + j) z hz
 have := (List.getElem?_eq_some_iff.1 hz).1
 refine ⟨q, off + f, ?_, h4, by rw [Nat.add_assoc]; exact h5⟩
 rw [if_neg (by omega)]
 simp [Addr.add_lit]
theorem row_one (w : World) (v : Value) (t : Nat) : (w.alloc (.cells #[v] t)).ownsRow w.heap.size t 1 (.slice (some ⟨w.heap.size, 0, none⟩) 1 1) 1 [v] :=
 ⟨by simp, .inr ⟨w.heap.size, 1, #[v], rfl, Nat.le_refl _, heap_alloc_new w _, by omega, by simp [maxLen], by simp, by simp⟩⟩
def Wrd (n0 : Nat) (w : World) (g : Im.Gr) (vs : List Value) : Prop := ∀ (i : Nat) u, vs[i]? = some u → Lrd n0 w u .i64 (rw17 g i)
theorem waysOf_any (n0 : Nat) (w : World) (vo vs vh vr vq : Value) (os : List OL) (ts : List (Value × List (Value × List Int))) (g : Im.Gr) (hg : Grd n0 w vo vs vh vr vq os ts g) (hn : n0 ≤ w.heap.size) (hm : MB g) (hol : os.length ≤ 2000000) (hs : Sln ts) (hlen : (g.hs ++ g.qu).length + (slotsF g.slots).length ≤ 1000000000) :
  Calls Tryz.prog 19 #[.agg (gcs vo vs vh vr vq g.next)] w fun e w' => ∃ v rs, e = .returned v ∧ w'.ownsRow w.heap.size 24 1 v (os.length + 1) rs ∧ Wrd w'.heap.size w' g rs ∧ Below w.heap.size w w' := by
 obtain ⟨i0, hi0, hj0, hj1, hj2⟩ := info_p17 infoL17
 have HI : Hid (Tryz.prog.info? 24 = some i0 ∧ i0.zero = some (.slice none 0 0) ∧ i0.size = 1 ∧ i0.bytes = 24) := ⟨hi0, hj0, hj1, hj2⟩
 clear hi0 hj0 hj1 hj2
 have l1 : Below w.heap.size w (w.alloc (.cells (gcs vo vs vh vr vq g.next) 27)) := Below.alloc (Below.refl _ _) (Nat.le_refl _) _
 have hx := heap_alloc_new w (.cells (gcs vo vs vh vr vq g.next) 27 (0, 0))
 obtain ⟨oa, oc, eo, -⟩ := id hg.ob
 subst eo
 generalize hW : w.alloc (.cells (gcs (.slice oa os.length oc) vs vh vr vq g.next) 27) = W at *
 have y0 : W.cell? ⟨w.heap.size, 0, none⟩ = some (.slice oa os.length oc) := Kg.heap_cell hx 0
 have y1 : W.cell? ⟨w.heap.size, 1, none⟩ = some vs := Kg.heap_cell hx 1
 have y2 : W.cell? ⟨w.heap.size, 2, none⟩ = some vh := Kg.heap_cell hx 2
 have y3 : W.cell? ⟨w.heap.size, 3, none⟩ = some vr := Kg.heap_cell hx 3
 have y4 : W.cell? ⟨w.heap.size, 4, none⟩ = some vq := Kg.heap_cell hx 4
 have y5 : W.cell? ⟨w.heap.size, 5, none⟩ = some (.int .u64 (g.next : Int)) := Kg.heap_cell hx 5
 have q := rootsOf_any n0 W _ vs vh vr vq os ts g (hg.below (l1.mono hn)) (Nat.le_trans hn l1.size) hs hlen
 have HL1 : Hid (Below w.heap.size w W) := l1
 have HM : Hid (MB g) := hm
 have HG : Hid (∀ w', Below W.heap.size W w' → w'.cell? ⟨w.heap.size, 0, none⟩ = some (.slice oa os.length oc) ∧ Below w.heap.size w w' ∧ Grd n0 w' (.slice oa os.length oc) vs vh vr vq os ts g) := fun w' b' => ⟨(Kg.heap_cell ((b'.block _ (Kg.heap_lt hx)).trans hx) 0), l1.trans (b'.mono l1.size), hg.below ((l1.trans (b'.mono l1.size)).mono hn)⟩
 clear hg hx l1 hm hs hlen
 go_enter Tryz.func19, Tryz.ntmps19
 go_wp2_with fail
 refine q.mono ?_
 rintro e w1 ⟨v1, rfl, r1, b1⟩
 obtain ⟨a1, c1, rfl⟩ := own_sl17 r1
 clear q y0 y1 y2 y3 y4 y5
 have B1 : Hid (Below W.heap.size W w1) := b1
 have R1 : Hid (Lrd w1.heap.size w1 (.slice a1 (rw17 g 0).length c1) .i64 (rw17 g 0)) := Il.lrd r1
 clear b1 r1
 go_upto_region 2 with fail
 have R2 := row_one w1 (.slice a1 (rw17 g 0).length c1) 24
 have b2 : Below w1.heap.size w1 (w1.alloc (.cells #[.slice a1 (rw17 g 0).length c1] 24)) := Below.alloc (Below.refl _ _) (Nat.le_refl _) _
 have W2 : Wrd w1.heap.size (w1.alloc (.cells #[.slice a1 (rw17 g 0).length c1] 24)) g [.slice a1 (rw17 g 0).length c1] := fun i u hu => by
  cases i with
  | zero => cases hu; exact R1.out.below b2
  | succ i => simp at hu
 have HB2 : Hid (Below w1.heap.size w1 (w1.alloc (.cells #[.slice a1 (rw17 g 0).length c1] 24))) := b2
 have HRW2 : Hid (∃ rs0, (w1.alloc (.cells #[.slice a1 (rw17 g 0).length c1] 24)).ownsRow w1.heap.size 24 1 (.slice (some ⟨w1.heap.size, 0, none⟩) 1 1) 1 rs0 ∧ Wrd w1.heap.size (w1.alloc (.cells #[.slice a1 (rw17 g 0).length c1] 24)) g rs0) := ⟨_, R2, W2⟩
 have y0 := (HG.out _ (B1.out.trans (b2.mono B1.out.size))).1
 clear R2 b2 W2 R1
 generalize w1.alloc (.cells #[.slice a1 (rw17 g 0).length c1] 24) = w2 at *
 obtain ⟨rs0, R2, W2⟩ := HRW2.out
 have HR2 : Hid (w2.ownsRow w1.heap.size 24 1 (.slice (some ⟨w1.heap.size, 0, none⟩) 1 1) 1 rs0) := R2
 have HW2 : Hid (Wrd w1.heap.size w2 g rs0) := W2
 clear R2 W2 HRW2
 go_wp2
 go_loopw [3, 12] (fun v i wr => ∃ (k : Nat) (rs : List Value), k ≤ os.length ∧ i = .int .i64 (k : Nat) ∧ Hid (wr.ownsRow w1.heap.size 24 1 v (k + 1) rs) ∧ Hid (Wrd w1.heap.size wr g rs) ∧ Hid (Below w1.heap.size w1 wr)) (fun _ i _ => os.length - (intOf i).toNat)
 case atStart => exact ⟨0, rs0, Nat.zero_le _, rfl, HR2, HW2, HB2⟩
 case round =>
  obtain ⟨k, rs, hk, rfl, R3, W3, B3⟩ := hrel
  have BW : Hid (Below W.heap.size W wr) := B1.out.trans (B3.out.mono B1.out.size)
  by_cases hkl : k < os.length
  ·have hkI : (k : Int) < (os.length : Int) := by omega
   have hz : os[k]? = some (os[k]'hkl) := List.getElem?_eq_getElem hkl
   generalize os[k]'hkl = o at hz
   obtain ⟨-, -, gr⟩ := HG.out wr BW.out
   have hgo : g.obs[k]? = some o.o := by rw [gr.eo, List.getElem?_map, hz]; rfl
   have hfl := fst_le HM.out (List.mem_of_getElem? hgo)
   have HRW : Hid (rw17 g (k + 1) = o.o.ps.drop (fst17 o.o.kind)) := by show _ = _; simp only [rw17, hgo]
   obtain ⟨oa', oc', eo, hob⟩ := gr.ob
   simp only [Value.slice.injEq] at eo
   obtain ⟨rfl, -, rfl⟩ := eo
   obtain ⟨lp, lr, qo, off, rfl, hqo, hco⟩ := hob k o hz
   have c0 := (hco 0 (by omega)).trans (show _ = some (Value.int .u64 (o.o.ser : Int)) from rfl)
   have c1' := (hco 1 (by omega)).trans (show _ = some (Value.int .i64 o.o.kind) from rfl)
   have c2 := (hco 2 (by omega)).trans (show _ = some (Value.int .i64 o.o.site) from rfl)
   have c3 := (hco 3 (by omega)).trans (show _ = some o.vp from rfl)
   have c4 := (hco 4 (by omega)).trans (show _ = some o.vr from rfl)
   rw [Nat.add_zero] at c0
   have HLP : Hid (Lrd n0 wr o.vp .i64 o.o.ps) := lp
   obtain ⟨pa, pc, ep, hpc, -⟩ := lp
   obtain ⟨ra, rc, er, -, -⟩ := lr
   rw [ep] at c3 HLP
   rw [er] at c4
   clear hob hco hz gr hgo ep er
   go_upto_region 5 with fail
   obtain ⟨A, hA⟩ : ∃ A, A = wr.heap.size := ⟨_, rfl⟩
   obtain ⟨f, hf⟩ : ∃ f, f = fst17 o.o.kind := ⟨_, rfl⟩
   obtain ⟨n, hn9⟩ : ∃ n, n = o.o.ps.length := ⟨_, rfl⟩
   have HFK : Hid (f = fst17 o.o.kind) := hf
   have HNK : Hid (n = o.o.ps.length) := hn9
   have hfn : f ≤ n ∧ n ≤ 4095 := by rw [hf, hn9]; exact hfl
   rw [← hn9] at hpc c3 HLP
   rw [← hf] at HRW
   obtain ⟨a3, d3, rfl⟩ := own_sl17 R3.out
   have hx5 := heap_alloc_new wr (.cells (ocs o.o.ser o.o.kind o.o.site (.slice pa n pc) (.slice ra o.o.rs.length rc)) 61 (0, 0))
   have b5 : Below A wr (wr.alloc (.cells (ocs o.o.ser o.o.kind o.o.site (.slice pa n pc) (.slice ra o.o.rs.length rc)) 61)) := by rw [hA]; exact Below.alloc (Below.refl _ _) (Nat.le_refl _) _
   have r5 : (wr.alloc (.cells (ocs o.o.ser o.o.kind o.o.site (.slice pa n pc) (.slice ra o.o.rs.length rc)) 61)).ownsRow w1.heap.size 24 1 (.slice a3 (k + 1) d3) (k + 1) rs := R3.out.alloc _
   rw [← hn9, ← hA]
   rw [← hA] at hx5
   change Code.wp _ _ _ _ (wr.alloc (.cells (ocs o.o.ser o.o.kind o.o.site (.slice pa n pc) (.slice ra o.o.rs.length rc)) 61))
   have HA5 : Hid (A < (wr.alloc (.cells (ocs o.o.ser o.o.kind o.o.site (.slice pa n pc) (.slice ra o.o.rs.length rc)) 61)).heap.size) := by show _ < _; rw [hA]; simp
   have HAw : Hid (A = wr.heap.size) := hA
   clear hf hn9 hfl hA
   generalize wr.alloc (.cells (ocs o.o.ser o.o.kind o.o.site (.slice pa n pc) (.slice ra o.o.rs.length rc)) 61) = w5 at *
   have k1 : w5.cell? ⟨A, 1, none⟩ = some (.int .i64 o.o.kind) := Kg.heap_cell hx5 1
   have k3 : w5.cell? ⟨A, 3, none⟩ = some (.slice pa n pc) := Kg.heap_cell hx5 3
   have HR5 : Hid (w5.ownsRow w1.heap.size 24 1 (.slice a3 (k + 1) d3) (k + 1) rs) := r5
   have HB5 : Hid (Below A wr w5) := b5
   have HO5 : Hid (∀ q, (Value.slice a3 (k + 1) d3).ownBlock = some q → q < A) := fun q hq => by rw [HAw.out]; exact (R3.out.lt q hq).2
   have hfnI : (f : Int) ≤ (n : Int) := by omega
   clear hx5 b5 r5 c0 c1' c2 c3 c4
   refine wp_region_held_drew (S := fun w' => w'.cell? ⟨A, 1, none⟩ = some (.int .i64 o.o.kind) ∧ w'.cell? ⟨A, 3, none⟩ = some (.slice pa n pc)) Kg.mixed (And.intro k1 k3) (fun hHeld => ?_)
   refine wpAnyH_take (i := 0) (v := (.slice a3 (k + 1) d3)) rfl (by kernel_rfl) (by kernel_rfl) (by kernel_rfl) (fun _ _ _ h => h) (Or.inl ⟨by rfl, fun wx hSw => ?_⟩) (by assumption) ?_
   ·obtain ⟨s1, s3⟩ := hSw
    go_simp
   change wpAnyH _ _ _ _ _ _ _ (Act.put _ (some 16) (.slice a3 (k + 1) d3)) _
   simp only [Act.put, List.setIfInBounds_toArray, List.set_cons_zero, List.set_cons_succ]
   refine wpAnyH_take (i := 1) (v := (.pointer (some ⟨A, 3, none⟩))) rfl (by kernel_rfl) (by kernel_rfl) (by kernel_rfl) (fun _ _ _ h => h) (Or.inl ⟨by rfl, fun wx hSw => ?_⟩) (by assumption) ?_
   ·obtain ⟨s1, s3⟩ := hSw
    go_simp
   change wpAnyH _ _ _ _ _ _ _ (Act.put _ (some 17) (.pointer (some ⟨A, 3, none⟩))) _
   simp only [Act.put, List.setIfInBounds_toArray, List.set_cons_zero, List.set_cons_succ]
   refine wpAnyH_take (i := 2) (v := (.slice pa n pc)) rfl (by kernel_rfl) (by kernel_rfl) (by kernel_rfl) (fun _ _ _ h => h) (Or.inl ⟨by rfl, fun wx hSw => ?_⟩) (by assumption) ?_
   ·obtain ⟨s1, s3⟩ := hSw
    go_simp
   change wpAnyH _ _ _ _ _ _ _ (Act.put _ (some 18) (.slice pa n pc)) _
   simp only [Act.put, List.setIfInBounds_toArray, List.set_cons_zero, List.set_cons_succ]
   refine wpAnyH_take (i := 3) (v := (.pointer (some ⟨A, 1, none⟩))) rfl (by kernel_rfl) (by kernel_rfl) (by kernel_rfl) (fun _ _ _ h => h) (Or.inl ⟨by rfl, fun wx hSw => ?_⟩) (by assumption) ?_
   ·obtain ⟨s1, s3⟩ := hSw
    go_simp
   change wpAnyH _ _ _ _ _ _ _ (Act.put _ (some 19) (.pointer (some ⟨A, 1, none⟩))) _
   simp only [Act.put, List.setIfInBounds_toArray, List.set_cons_zero, List.set_cons_succ]
   refine wpAnyH_take (i := 4) (v := (.int .i64 o.o.kind)) rfl (by kernel_rfl) (by kernel_rfl) (by kernel_rfl) (fun _ _ _ h => h) (Or.inl ⟨by rfl, fun wx hSw => ?_⟩) (by assumption) ?_
   ·obtain ⟨s1, s3⟩ := hSw
    go_simp
   change wpAnyH _ _ _ _ _ _ _ (Act.put _ (some 20) (.int .i64 o.o.kind)) _
   simp only [Act.put, List.setIfInBounds_toArray, List.set_cons_zero, List.set_cons_succ]
   refine wpAnyH_ready (rs := [5]) (by kernel_rfl) (by simp) (AllReadyH.cons rfl (fun K hK => ?_) AllReadyH.nil)
   go_simp
   refine (firstStrong_any _ _).mono ?_
   rintro e w6 ⟨rfl, rfl⟩
   rw [← HFK.out]
   refine hK.out _ _ (And.intro k1 k3) (fun hHeld2 => ?_)
   clear hK K hHeld
   refine wpAnyH_take (i := 6) (v := (sl17 pa n pc f)) rfl (by kernel_rfl) (by kernel_rfl) (by kernel_rfl) (fun _ _ _ h => h) (Or.inl ⟨by rfl, fun wx hSw => ?_⟩) (by assumption) ?_
   ·obtain ⟨s1, s3⟩ := hSw
    go_simp
    rfl
   change wpAnyH _ _ _ _ _ _ _ (Act.put _ (some 22) (sl17 pa n pc f)) _
   simp only [Act.put, List.setIfInBounds_toArray, List.set_cons_zero, List.set_cons_succ]
   have HLd : Hid (Lrd n0 wr (sl17 pa n pc f) .i64 (rw17 g (k + 1))) := by
    show Lrd _ _ _ _ _
    rw [HRW.out]
    exact sl17_lrd HLP.out (by rw [← HNK.out]; exact hfn.1)
   generalize sl17 pa n pc f = u at *
   obtain ⟨ua, ul, uc, rfl⟩ : ∃ ua ul uc, u = .slice ua ul uc := by
    obtain ⟨ua, uc, e, -⟩ := HLd.out
    exact ⟨ua, _, uc, e⟩
   refine wpAnyH_ready (rs := [7]) (by kernel_rfl) (by simp) (AllReadyH.cons rfl (fun K hK => ?_) AllReadyH.nil)
   go_simp
   have b6 : Below w5.heap.size w5 ((w5.alloc (.cells #[.slice ua ul uc] 24)).drew) := (Below.alloc (Below.refl _ _) (Nat.le_refl _) _).drew
   have c6 : ∀ (j : Nat) u, [Value.slice ua ul uc][j]? = some u → ((w5.alloc (.cells #[.slice ua ul uc] 24)).drew).cell? ((⟨w5.heap.size, 0, none⟩ : Addr).add j) = some u := cell_one17 w5 (.slice ua ul uc) 24
   have r6 : ((w5.alloc (.cells #[.slice ua ul uc] 24)).drew).ownsRow w1.heap.size 24 1 (.slice a3 (k + 1) d3) (k + 1) rs := HR5.out.alloc _
   have s1 := (b6.cell (p := ⟨A, 1, none⟩) HA5.out).trans k1
   have s3 := (b6.cell (p := ⟨A, 3, none⟩) HA5.out).trans k3
   generalize (w5.alloc (.cells #[.slice ua ul uc] 24)).drew = w6 at *
   have HB6 : Hid (Below A wr w6) := HB5.out.trans (b6.mono (Nat.le_of_lt HA5.out))
   have HA6 : Hid (w1.heap.size ≤ w6.heap.size ∧ A < w6.heap.size ∧ w1.heap.size ≤ A) := ⟨Nat.le_trans B3.out.size (Nat.le_trans HB5.out.size b6.size), Nat.lt_of_lt_of_le HA5.out b6.size, by rw [HAw.out]; exact B3.out.size⟩
   refine hK.out _ _ (And.intro s1 s3) (fun hHeld3 => ?_)
   clear hK K hHeld2 k1 k3
   refine wpAnyH_ready (rs := [8]) (by kernel_rfl) (by simp) (AllReadyH.cons rfl (fun K hK => ?_) AllReadyH.nil)
   refine step_append_own_at rfl (.tmp 16) (.tmp 23) 30 rfl w1.heap.size 24 i0 (.slice none 0 0) 1 24 Tryz.underlying30 HI.out.1 HI.out.2.1 HI.out.2.2.1 HI.out.2.2.2 rfl (by decide) (.slice a3 (k + 1) d3) (k + 1) rs rfl r6 ⟨w5.heap.size, 0, none⟩ 1 1 [.slice ua ul uc] rfl rfl c6 (by simp [Value.oneCell']) (by simp only [maxLen]; omega) (by omega) HA6.out.1 ?_
   intro v7 w7 h7 g7 _
   have g7 : w6.grownBy w7 (Value.slice a3 (k + 1) d3).ownBlock := g7
   have hne : some A ≠ (Value.slice a3 (k + 1) d3).ownBlock := fun e => by have := HO5.out A e.symm; omega
   have t1 := g7.cell (a := ⟨A, 1, none⟩) s1 hne
   have t3 := g7.cell (a := ⟨A, 3, none⟩) s3 hne
   have tt : Kg.Touch (Value.slice a3 (k + 1) d3).ownBlock.toList w6 w7 := Kg.Touch.grown g7 (fun x hx => by rw [Option.mem_toList]; exact hx)
   have b7 : Below w1.heap.size w6 w7 := tt.below HA6.out.1 (fun x hx => by rw [Option.mem_toList] at hx; exact (r6.lt x hx).1)
   have b37 : Below w1.heap.size wr w7 := (HB6.out.mono HA6.out.2.2).trans b7
   have HB7 : Hid (Below w1.heap.size w1 w7) := B3.out.trans b37
   have HR7 : Hid (w7.ownsRow w1.heap.size 24 1 v7 (k + 1 + 1) (rs ++ [.slice ua ul uc])) := h7
   have hrl : rs.length = k + 1 := by have := r6.1; omega
   have HW7 : Hid (Wrd w1.heap.size w7 g (rs ++ [.slice ua ul uc])) := fun i u hu => by
    rcases Nat.lt_or_ge i rs.length with h | h
    ·rw [List.getElem?_append_left h] at hu
     exact (W3.out i u hu).below b37
    ·rw [List.getElem?_append_right h] at hu
     have e : i = k + 1 := by
      have := (List.getElem?_eq_some_iff.1 hu).1
      simp at this
      omega
     rw [e, hrl, Nat.sub_self] at hu
     cases hu
     rw [e]
     exact (HLd.out.mono (Nat.le_trans hn (Nat.le_trans HL1.out.size B1.out.size))).below b37
   clear h7 g7 tt b7 b37 hrl r6 s1 s3 c6 b6
   refine hK.out _ _ (And.intro t1 t3) (fun hHeld4 => ?_)
   clear hK K hHeld3
   refine wpAnyH_ready (rs := [9]) (by kernel_rfl) (by simp) (AllReadyH.cons rfl (fun K hK => ?_) AllReadyH.nil)
   go_simp
   refine hK.out _ _ (And.intro t1 t3) (fun hHeld5 => ?_)
   clear hK K hHeld4
   refine wpAnyH_done (by kernel_rfl) ?_ _
   obtain ⟨a7, d7, rfl⟩ := own_sl17 HR7.out
   clear t1 t3 hHeld5
   go_wp2
   go_roundw
   case rel => exact ⟨k + 1, rs ++ [.slice ua ul uc], by omega, by go_num, HR7, HW7, HB7⟩
   case measure => simp [intOf]; omega
  ·have hkI : ¬ (k : Int) < (os.length : Int) := by omega
   obtain rfl : k = os.length := by omega
   obtain ⟨a3, c3, rfl⟩ := own_sl17 R3.out
   have HBo : Hid (Below w.heap.size w wr) := HL1.out.trans (BW.out.mono HL1.out.size)
   have HWo : Hid (Wrd wr.heap.size wr g rs) := fun i u hu => (W3.out i u hu).mono B3.out.size
   go_wp2
   go_ret
   exact ⟨_, rfl, rs, Kg.row_base R3.out (Nat.le_trans HL1.out.size B1.out.size), HWo.out, HBo.out⟩
end Go.Proofs.YtckgcpoheodbcaaGreatDoor
