import Derived.Test.YtfihjmoaibmllaaDoorY35
import Derived.Test.YtfihjmoaibmllaaDoorY36
import Derived.Test.YtfihjmoaibmllaaDoorYOp
/-
  What Rebuild and Prune do, by numbers.
-/
set_option linter.unusedVariables false
set_option maxRecDepth 20000
namespace Go.Proofs.YtfihjmoaibmllaaDoor
open Go.RowKit Go.Shelf

/-- A tenured thing that holds a young one. -/
def q4T (c : Cfg) (sw : Bool) (T : Tng) : Bool := inS 4 T && hyT c sw T

/-- The numbers of the tenured things that hold a young one. -/
def wantN (c : Cfg) (sw : Bool) (th : List Tng) : List Int := (th.filter (q4T c sw)).map (fun T => (T.no : Int))

section
variable {c : Cfg} {x : Tps} {sw : Bool} {ws : Nat → Int} {th : List Tng} {w : World} {b g : Nat} {L : List LT} {Fs : List (List Int)}

theorem spc_sp (H : Ax w b g c x sw ws th) {T : Tng} (hT : T ∈ th) : spc c T.at_ = T.sp := by
  obtain ⟨s, -, -, h1, h2, -⟩ := H.hl.stands H.ar hT
  rw [h1, h2]

theorem hta_thing (H : Ax w b g c x sw ws th) {T : Tng} (hT : T ∈ th) : hta c sw th T.at_ = q4T c sw T := by
  rw [hta_at H.hl sw hT, spc_sp H hT]
  rfl

theorem hy_fields (S : Sk L th) (H : Ax w b g c x sw ws th) (ag : Ag L th Fs) {T : Tng} (hT : T ∈ th) {fs : List Int} (hf : Fs[T.no - 1]? = some fs) : hyT c sw T = fs.any (ynl L sw) := by
  unfold hyT
  rw [ag.ps T hT fs hf, List.any_map]
  congr 1
  funext z
  exact yg_plc S H z

/-- The list that Rebuild makes. -/
theorem rebuilt_list (S : Sk L th) (H : Ax w b g c x sw ws th) : (tens th).filter (hta c sw th) = (wantN c sw th).map (plc L) := by
  unfold tens wantN
  rw [List.filter_map, List.filter_filter, List.map_map]
  have e : th.filter (fun T => (hta c sw th ∘ fun T => T.at_) T && inS 4 T) = th.filter (q4T c sw) := List.filter_congr (fun T hT => by
    show (hta c sw th T.at_ && inS 4 T) = _
    rw [hta_thing H hT]
    unfold q4T
    cases inS 4 T <;> simp)
  rw [e]
  refine List.map_congr_left (fun T hT => ?_)
  show T.at_ = plc L T.no
  exact (S.plc (List.mem_filter.1 hT).1).symm

theorem mem_want (S : Sk L th) {T : Tng} (hT : T ∈ th) : ((T.no : Int) ∈ wantN c sw th) ↔ q4T c sw T = true := by
  unfold wantN
  rw [List.mem_map]
  constructor
  · rintro ⟨U, hU, e⟩
    obtain ⟨h1, h2⟩ := List.mem_filter.1 hU
    have : U = T := S.uniq h1 hT (by omega)
    subst this
    exact h2
  · intro h
    exact ⟨T, List.mem_filter.2 ⟨hT, h⟩, rfl⟩

theorem at_inj (H : Ax w b g c x sw ws th) {T U : Tng} (hT : T ∈ th) (hU : U ∈ th) (h : T.at_ = U.at_) : T = U := by
  obtain ⟨i, hi⟩ := List.getElem?_of_mem hT
  obtain ⟨j, hj⟩ := List.getElem?_of_mem hU
  have := H.hl.inj hi hj h
  subst this
  rw [hi] at hj
  simpa using hj

theorem mem_tens (H : Ax w b g c x sw ws th) {T : Tng} (hT : T ∈ th) : T.at_ ∈ tens th ↔ inS 4 T = true := by
  unfold tens
  rw [List.mem_map]
  constructor
  · rintro ⟨U, hU, e⟩
    obtain ⟨h1, h2⟩ := List.mem_filter.1 hU
    have : U = T := at_inj H h1 hT e
    subst this
    exact h2
  · intro h
    exact ⟨T, List.mem_filter.2 ⟨hT, h⟩, rfl⟩
end

/-- Held alone is changed. -/
theorem mem_mk {q : Int → Bool} {ns : List Int} {th : List Tng} {V : Tng} (h : V ∈ mk_ q ns th) : ∃ T, T ∈ th ∧ V = { T with h := V.h } ∧ V.h = if T.at_ ∈ ns then q T.at_ else T.h := by
  unfold mk_ at h
  obtain ⟨T, hT, rfl⟩ := List.mem_map.1 h
  refine ⟨T, hT, ?_, ?_⟩
  · split <;> rfl
  · split <;> rfl

theorem Sk.heldAll {L : List LT} {th : List Tng} (S : Sk L th) (q : Int → Bool) (ns : List Int) : Sk L (mk_ q ns th) := by
  refine ⟨fun V hV => ?_, fun n o ho h1 h2 => ?_, ?_⟩
  · obtain ⟨T, hT, e, -⟩ := mem_mk hV
    obtain ⟨n, o, e1, e2, e3, e4, e5⟩ := S.of T hT
    rw [e]
    exact ⟨n, o, e1, e2, e3, e4, e5.held _⟩
  · obtain ⟨T, hT, hn⟩ := S.tn n o ho h1 h2
    unfold mk_
    refine ⟨if T.at_ ∈ ns then { T with h := q T.at_ } else T, List.mem_map.2 ⟨T, hT, rfl⟩, ?_⟩
    split <;> exact hn
  · unfold mk_
    rw [List.pairwise_map]
    refine S.ord.imp (fun {T U} h => ?_)
    have e : ∀ T : Tng, (if T.at_ ∈ ns then { T with h := q T.at_ } else T).no = T.no := fun T => by split <;> rfl
    rw [e, e]
    exact h

theorem Ag.heldAll {L : List LT} {th : List Tng} {Fs : List (List Int)} (A : Ag L th Fs) (q : Int → Bool) (ns : List Int) : Ag L (mk_ q ns th) Fs :=
  ⟨A.len, fun V hV fs hf => by
    obtain ⟨T, hT, e, -⟩ := mem_mk hV
    rw [e] at hf ⊢
    exact A.ps T hT fs hf, A.ini, A.few⟩

theorem want_mk (c : Cfg) (sw : Bool) (q : Int → Bool) (ns : List Int) (th : List Tng) : wantN c sw (mk_ q ns th) = wantN c sw th := by
  unfold wantN mk_
  rw [List.filter_map, List.map_map]
  have e : ∀ T : Tng, q4T c sw (if T.at_ ∈ ns then { T with h := q T.at_ } else T) = q4T c sw T := fun T => by split <;> rfl
  have hfe : th.filter (q4T c sw ∘ fun T => if T.at_ ∈ ns then { T with h := q T.at_ } else T) = th.filter (q4T c sw) := List.filter_congr (fun T _ => e T)
  rw [hfe]
  refine List.map_congr_left (fun T _ => ?_)
  show ((if T.at_ ∈ ns then { T with h := q T.at_ } else T : Tng).no : Int) = T.no
  split <;> rfl

section
variable {c : Cfg} {x : Tps} {sw : Bool} {ws : Nat → Int} {th : List Tng} {w : World} {b g : Nat} {L : List LT} {Fs : List (List Int)}

/-- Held behind Rebuild. -/
theorem rebuilt_held (S : Sk L th) (H : Ax w b g c x sw ws th) (h0 : ∀ T, T ∈ th → inS 4 T = false → T.h = false) (S0 : Int → Bool) : ∀ V, V ∈ mk_ (inS' (hta c sw th) S0 (tens th)) (tens th) th → V.h = decide ((V.no : Int) ∈ wantN c sw th) ∧ (inS 4 V = false → V.h = false) := fun V hV => by
  obtain ⟨T, hT, e, eh⟩ := mem_mk hV
  have en : V.no = T.no := by rw [e]
  have es : inS 4 V = inS 4 T := by rw [e]
  rw [en, es]
  have hw := mem_want (c := c) (sw := sw) S hT
  by_cases ht : inS 4 T = true
  · have hm := (mem_tens H hT).2 ht
    rw [if_pos hm] at eh
    have eq : inS' (hta c sw th) S0 (tens th) T.at_ = q4T c sw T := by unfold inS'; rw [if_pos hm, hta_thing H hT]
    rw [eh, eq]
    refine ⟨?_, fun h => by rw [ht] at h; simp at h⟩
    cases hq : q4T c sw T
    · rw [hq] at hw
      simp at hw
      simp [hw]
    · rw [hq] at hw
      simp at hw
      simp [hw]
  · have ht' : inS 4 T = false := by simpa using ht
    have hm : ¬ T.at_ ∈ tens th := fun h => ht ((mem_tens H hT).1 h)
    rw [if_neg hm] at eh
    have hq : q4T c sw T = false := by unfold q4T; rw [ht']; rfl
    rw [hq] at hw
    simp at hw
    rw [eh, h0 T hT ht']
    exact ⟨by simp [hw], fun _ => rfl⟩

/-- Prune of a list that is right already. -/
theorem pruned_held (S : Sk L th) (H : Ax w b g c x sw ws th) {l : List Int} (hl : l = (wantN c sw th).map (plc L)) (hh : ∀ T, T ∈ th → T.h = decide ((T.no : Int) ∈ wantN c sw th)) (S0 : Int → Bool) : l.filter (hta c sw th) = l ∧ ∀ V, V ∈ mk_ (inS' (hta c sw th) S0 l) l th → V.h = decide ((V.no : Int) ∈ wantN c sw th) := by
  have key : ∀ a, a ∈ l → ∃ T, T ∈ th ∧ T.at_ = a ∧ q4T c sw T = true := fun a ha => by
    rw [hl] at ha
    obtain ⟨n, hn, rfl⟩ := List.mem_map.1 ha
    unfold wantN at hn
    obtain ⟨T, hT, rfl⟩ := List.mem_map.1 hn
    obtain ⟨h1, h2⟩ := List.mem_filter.1 hT
    exact ⟨T, h1, (S.plc h1).symm, h2⟩
  refine ⟨List.filter_eq_self.2 (fun a ha => ?_), fun V hV => ?_⟩
  · obtain ⟨T, hT, rfl, hq⟩ := key a ha
    rw [hta_thing H hT]
    exact hq
  · obtain ⟨T, hT, e, eh⟩ := mem_mk hV
    have en : V.no = T.no := by rw [e]
    rw [en, eh]
    by_cases hm : T.at_ ∈ l
    · rw [if_pos hm]
      obtain ⟨U, hU, ea, hq⟩ := key _ hm
      have : U = T := at_inj H hU hT ea
      subst this
      have eq : inS' (hta c sw th) S0 l U.at_ = true := by unfold inS'; rw [if_pos hm, hta_thing H hU]; exact hq
      rw [eq, decide_eq_true ((mem_want S hU).2 hq)]
    · rw [if_neg hm]
      exact hh T hT

/-- Nothing is missing behind Rebuild. -/
theorem rebuilt_none (H : Ax w b g c x sw ws th) (S0 : Int → Bool) : ∀ V, V ∈ (mk_ (inS' (hta c sw th) S0 (tens th)) (tens th) th).filter (inS 4) → miss c sw (inS' (hta c sw th) S0 (tens th)) V = false := fun V hV => by
  obtain ⟨h1, h2⟩ := List.mem_filter.1 hV
  obtain ⟨T, hT, e, -⟩ := mem_mk h1
  have ea : V.at_ = T.at_ := by rw [e]
  have ey : hyT c sw V = hyT c sw T := by rw [e]; rfl
  have es : inS 4 T = true := by rw [e] at h2; exact h2
  unfold miss inS'
  rw [ea, ey, if_pos ((mem_tens H hT).2 es), hta_thing H hT]
  unfold q4T
  rw [es]
  cases hyT c sw T <;> rfl
end

theorem wantN_nodup {c : Cfg} {sw : Bool} {L : List LT} {th : List Tng} (S : Sk L th) : (wantN c sw th).Nodup := by
  unfold wantN
  have h := (S.ord.filter (q4T c sw))
  rw [List.nodup_iff_pairwise_ne, List.pairwise_map]
  exact h.imp (fun {T U} h e => by omega)

end Go.Proofs.YtfihjmoaibmllaaDoor

/-
  RemsetRebuilds: what it keeps.
-/
set_option linter.unusedVariables false
set_option maxRecDepth 20000
namespace Go.Proofs.YtfihjmoaibmllaaDoor
open Go.RowKit Go.Shelf

/-- The memory, its lay, arena, Set, and the fields by numbers. -/
structure Al (w1 : World) (n1 : Nat) (W : World) (mm lb b sb g mb : Nat) (lv : Value) (c : Cfg) (x : Tps) (ws : Nat → Int) (th : List Tng) (l : List Int) (n : Nat) (S : Int → Bool) (L : List LT) (fv : Value) (Fr : List (Nat × List Int)) (n2 : Nat) : Prop where
  mm_ : Mm W mm lb b sb
  ly : Ly n1 W lb c L
  rm : Rm w1 n1 W sb b g mb lv c x false ws th l n S
  fd : Fd W n2 fv Fr
  n12 : n1 ≤ n2

section
variable {w1 W W' : World} {n1 mm lb b sb g mb n n2 : Nat} {lv fv : Value} {c : Cfg} {x : Tps} {ws : Nat → Int} {th : List Tng} {l : List Int} {S : Int → Bool} {L : List LT} {Fr : List (Nat × List Int)}

theorem Al.hn (H : Al w1 n1 W mm lb b sb g mb lv c x ws th l n S L fv Fr n2) : n1 ≤ W.heap.size := Nat.le_trans H.rm.hn H.rm.bq.be.size

theorem Al.below (H : Al w1 n1 W mm lb b sb g mb lv c x ws th l n S L fv Fr n2) (h : Below W.heap.size W W') : Al w1 n1 W' mm lb b sb g mb lv c x ws th l n S L fv Fr n2 :=
  ⟨H.mm_.below h, H.ly.mono H.hn h, H.rm.below h, H.fd.below h, H.n12⟩

/-- The Set's and the arena's calls. -/
theorem Al.touch {lv' : Value} {ws' : Nat → Int} {th' : List Tng} {l' : List Int} {n' : Nat} {S' : Int → Bool} (H : Al w1 n1 W mm lb b sb g mb lv c x ws th l n S L fv Fr n2) (t : Touch [sb, mb, b, g] W W') (h : Rm w1 n1 W' sb b g mb lv' c x false ws' th' l' n' S') : Al w1 n1 W' mm lb b sb g mb lv' c x ws' th' l' n' S' L fv Fr n2 := by
  obtain ⟨⟨gs, hgs⟩, bs, hbs⟩ := H.rm.bq.ax.ar.rowTy
  have hm : mm ∉ [sb, mb, b, g] := by
    simp only [List.mem_cons, List.not_mem_nil, or_false, not_or]
    exact ⟨heap_ty_ne H.mm_.own H.rm.rs.own (by decide), fun e => H.rm.rs.map.ne H.mm_.own e, heap_ty_ne H.mm_.own hbs (by decide), heap_ty_ne H.mm_.own hgs (by decide)⟩
  refine ⟨⟨(t.block _ H.mm_.lt hm).trans H.mm_.own⟩, H.ly.below (t.below H.hn (fun q hq => ?_)), h, H.fd.touch H.rm.rs H.rm.bq.ax.ar t, H.n12⟩
  simp only [List.mem_cons, List.not_mem_nil, or_false] at hq
  rcases hq with rfl | rfl | rfl | rfl
  · exact H.rm.ls
  · exact H.rm.lm
  · exact H.rm.bq.lb
  · exact H.rm.bq.lg

/-- A row of the fields is written, the Set being empty. -/
theorem Al.field (H : Al w1 n1 W mm lb b sb g mb (.slice none 0 0) c x ws th [] n S L fv Fr n2) {i : Nat} {p : Nat × List Int} (hp : Fr[i]? = some p) (l' : List Int) (t : Touch [p.1] W W') (hc : W'.heap[p.1]? = some (.cells (ints l').toArray 3 (0, 0))) (hl : l'.length = p.2.length) : Al w1 n1 W' mm lb b sb g mb (.slice none 0 0) c x ws th [] n S L fv (Fr.set i (p.1, l')) n2 := by
  obtain ⟨⟨gs, hgs⟩, bs, hbs⟩ := H.rm.bq.ax.ar.rowTy
  have hm := List.mem_of_getElem? hp
  have hpc := (H.fd.rows p hm).1
  have hp2 := (H.fd.rows p hm).2
  have hn12 := H.n12
  have ne : ∀ y cs ty, W.heap[y]? = some (.cells cs ty (0, 0)) → ty ≠ 3 → y ∉ [p.1] := fun y cs ty hy hty => by
    simp only [List.mem_cons, List.not_mem_nil, or_false]
    exact heap_ty_ne hy hpc hty
  have be : Below n1 W W' := t.below H.hn (fun q hq => by simp only [List.mem_cons, List.not_mem_nil, or_false] at hq; omega)
  have t0 := H.rm.bq.t0
  have t1 := H.rm.bq.t1
  have hmb : mb ∉ [p.1] := by
    simp only [List.mem_cons, List.not_mem_nil, or_false]
    exact fun e => H.rm.rs.map.ne hpc e.symm
  have hrm : Rm w1 n1 W' sb b g mb (.slice none 0 0) c x false ws th [] n S := ⟨⟨H.rm.bq.ax.touch t (ne _ _ _ hbs (by decide)) (ne _ _ _ hgs (by decide)) (by simp; omega) (by simp; omega), H.rm.bq.be.trans be, H.rm.bq.lb, H.rm.bq.lg, t0, t1⟩, H.rm.rs.touch t (ne _ _ _ H.rm.rs.own (by decide)) hmb (fun q hq => by simp [Value.ownBlock] at hq), H.rm.ls, H.rm.lm, H.rm.lv_, H.rm.hn⟩
  refine ⟨⟨(t.block _ H.mm_.lt (ne _ _ _ H.mm_.own (by decide))).trans H.mm_.own⟩, H.ly.below be, hrm, ⟨?_, fun q hq => ?_, ?_⟩, H.n12⟩
  · have e1 : (Fr.set i (p.1, l')).map fval = Fr.map fval := map_set_same fval Fr i p _ hp (by show Value.slice _ _ _ = Value.slice _ _ _; rw [hl])
    rw [e1, List.length_set]
    refine row_keep H.fd.row (fun q hq => t.block q (row_lt H.fd.row q hq) ?_)
    simp only [List.mem_cons, List.not_mem_nil, or_false]
    intro e
    subst e
    exact row_ne hpc H.fd.row (by decide) hq.symm
  · obtain ⟨j, hj⟩ := List.getElem?_of_mem hq
    rcases set_at_of hj with ⟨rfl, rfl⟩ | ⟨hne, hj2⟩
    · exact ⟨hc, hp2⟩
    · have hq2 := List.mem_of_getElem? hj2
      refine ⟨(t.block _ (Array.getElem?_eq_some_iff.1 (H.fd.rows q hq2).1).1 ?_).trans (H.fd.rows q hq2).1, (H.fd.rows q hq2).2⟩
      simp only [List.mem_cons, List.not_mem_nil, or_false]
      intro e
      have hd := List.pairwise_iff_getElem.1 (show (Fr.map (·.1)).Pairwise (· ≠ ·) from H.fd.dp)
      obtain ⟨j1, j2⟩ := List.getElem?_eq_some_iff.1 hj2
      obtain ⟨i1, i2⟩ := List.getElem?_eq_some_iff.1 hp
      rcases Nat.lt_or_gt_of_ne hne with h | h
      · exact hd j i (by rw [List.length_map]; exact j1) (by rw [List.length_map]; exact i1) h (by rw [List.getElem_map, List.getElem_map, j2, i2]; exact e)
      · exact hd i j (by rw [List.length_map]; exact i1) (by rw [List.length_map]; exact j1) h (by rw [List.getElem_map, List.getElem_map, j2, i2]; exact e.symm)
  · have e1 : (Fr.set i (p.1, l')).map (·.1) = Fr.map (·.1) := map_set_same (fun p : Nat × List Int => p.1) Fr i p _ hp rfl
    rw [e1]
    exact H.fd.dp
end

end Go.Proofs.YtfihjmoaibmllaaDoor

/-
  RemsetRebuilds: what a deed does, the numbers that are wanted, what stands behind Rebuild and Prune.
-/
set_option linter.unusedVariables false
set_option maxRecDepth 20000
namespace Go.Proofs.YtfihjmoaibmllaaDoor
open Go.RowKit Go.Shelf

section
variable {c : Cfg} {x : Tps} {sw : Bool} {ws : Nat → Int} {th : List Tng} {w : World} {b g : Nat} {L : List LT} {Fs : List (List Int)}

/-- One field is written, in the arena and by numbers. -/
theorem deed_step {F : List (Nat × List Int)} (S : Sk L th) (A : Ag L th (F.map (·.2))) (h0 : ∀ T, T ∈ th → T.h = false) {ti jn f : Nat} {T : Tng} {pr : Nat × List Int} {ot : Int} (hT : th[ti]? = some T) (hp : F[jn]? = some pr) (hno : T.no - 1 = jn) (hps : T.ps = pr.2.map (plc L)) (hot : InI ot) :
    Sk L (th.set ti { T with ps := T.ps.set f (plc L ot) }) ∧ Ag L (th.set ti { T with ps := T.ps.set f (plc L ot) }) ((F.set jn (pr.1, pr.2.set f ot)).map (·.2)) ∧ (∀ V, V ∈ th.set ti { T with ps := T.ps.set f (plc L ot) } → V.h = false) := by
  have hTm := List.mem_of_getElem? hT
  have em : (F.set jn (pr.1, pr.2.set f ot)).map (·.2) = (F.map (·.2)).set jn (pr.2.set f ot) := by rw [List.map_set]
  have hm2 : pr.2 ∈ F.map (·.2) := List.mem_map.2 ⟨pr, List.mem_of_getElem? hp, rfl⟩
  have hmem : ∀ fs, fs ∈ (F.map (·.2)).set jn (pr.2.set f ot) → fs ∈ F.map (·.2) ∨ fs = pr.2.set f ot := fun fs h => List.mem_or_eq_of_mem_set h
  refine ⟨S.set ti T _ hT rfl (fun o h => ⟨h.at_, h.sp, h.s, h.k, h.p, h.r, h.a, h.t, by rw [← h.pl]; simp, h.rl⟩), ?_, fun V hV => ?_⟩
  · rw [em]
    refine ⟨by rw [List.length_set]; exact A.len, fun V hV fs hf => ?_, fun fs hfs z hz => ?_, fun fs hfs => ?_⟩
    · obtain ⟨j, hj⟩ := List.getElem?_of_mem hV
      rcases set_at_of hj with ⟨rfl, rfl⟩ | ⟨hne, hj2⟩
      · have hf2 : ((F.map (·.2)).set jn (pr.2.set f ot))[T.no - 1]? = some fs := hf
        rw [hno, List.getElem?_set_self (by have := (List.getElem?_eq_some_iff.1 hp).1; simpa using this)] at hf2
        simp at hf2
        show T.ps.set f (plc L ot) = fs.map (plc L)
        rw [← hf2, hps, List.map_set]
      · have hVm := List.mem_of_getElem? hj2
        have hnn : V.no - 1 ≠ jn := fun e => by
          obtain ⟨n1, o1, e1, -⟩ := S.of V hVm
          obtain ⟨n2, o2, e2, -⟩ := S.of T hTm
          obtain ⟨q1, q2⟩ := List.getElem?_eq_some_iff.1 hj2
          obtain ⟨r1, r2⟩ := List.getElem?_eq_some_iff.1 hT
          have hd := List.pairwise_iff_getElem.1 S.ord
          rcases Nat.lt_or_gt_of_ne hne with h | h
          · have := hd j ti q1 r1 h
            rw [q2, r2] at this
            omega
          · have := hd ti j r1 q1 h
            rw [q2, r2] at this
            omega
        rw [List.getElem?_set_ne (fun e => hnn e.symm)] at hf
        exact A.ps V hVm fs hf
    · rcases hmem fs hfs with h | rfl
      · exact A.ini fs h z hz
      · rcases List.mem_or_eq_of_mem_set hz with h | rfl
        · exact A.ini _ hm2 z h
        · exact hot
    · rcases hmem fs hfs with h | rfl
      · exact A.few fs h
      · rw [List.length_set]
        exact A.few _ hm2
  · rcases List.mem_or_eq_of_mem_set hV with h | rfl
    · exact h0 V h
    · exact h0 T hTm

theorem nos_start (S : Sk L th) (q : Tng → Bool) : nos th q 1 = [] := by
  unfold nos
  rw [List.map_eq_nil_iff, List.filter_eq_nil_iff]
  intro T hT
  obtain ⟨n, o, e, -⟩ := S.of T hT
  simp
  omega

theorem Sk.le (S : Sk L th) {T : Tng} (hT : T ∈ th) : 1 ≤ T.no ∧ T.no ≤ L.length := by
  obtain ⟨n, o, e, h, -⟩ := S.of T hT
  have := (List.getElem?_eq_some_iff.1 h).1
  omega

theorem nos_end (S : Sk L th) {N : Nat} (hN : L.length ≤ N) : nos th (q4T c sw) (N + 1) = wantN c sw th := by
  unfold nos wantN
  congr 1
  refine List.filter_congr (fun T hT => ?_)
  have := S.le hT
  rw [decide_eq_true (show T.no < N + 1 by omega), Bool.and_true]

theorem count_below : ∀ (l : List Nat) (a d : Nat), l.Pairwise (· < ·) → (∀ y, y ∈ l → a ≤ y ∧ y < d) → l.length ≤ d - a
  | [], _, _, _, _ => Nat.zero_le _
  | y :: l, a, d, hp, h => by
    rw [List.pairwise_cons] at hp
    have h1 := h y (List.mem_cons_self ..)
    have := count_below l (y + 1) d hp.2 (fun z hz => ⟨hp.1 z hz, (h z (List.mem_cons_of_mem _ hz)).2⟩)
    rw [List.length_cons]
    omega

theorem Sk.few (S : Sk L th) : th.length ≤ L.length := by
  have h := count_below (th.map (·.no)) 1 (L.length + 1) (List.pairwise_map.2 S.ord) (fun y hy => by
    obtain ⟨T, hT, rfl⟩ := List.mem_map.1 hy
    have := S.le hT
    omega)
  rw [List.length_map] at h
  omega

theorem nos_few (S : Sk L th) (q : Tng → Bool) (n : Nat) : (nos th q n).length ≤ L.length := by
  unfold nos
  rw [List.length_map]
  exact Nat.le_trans (List.length_filter_le _ _) S.few

/-- No thing of that number. -/
theorem nos_none (S : Sk L th) (q : Tng → Bool) {n : Nat} (h : thr L n = false) : nos th q (n + 1) = nos th q n := nos_no S (fun T hT e => by
  obtain ⟨o, ho, -⟩ := S.ob hT
  rw [e] at ho
  rw [thr_iff.2 ⟨o, ho⟩] at h
  simp at h)

/-- The thing of that number is none of these. -/
theorem nos_not (S : Sk L th) (q : Tng → Bool) {n : Nat} {T : Tng} (hT : T ∈ th) (hn : T.no = n) (h : q T = false) : nos th q (n + 1) = nos th q n := nos_no S (fun U hU e => by
  rw [S.uniq hU hT (by omega)]
  exact h)

theorem want_few (S : Sk L th) : (wantN c sw th).length ≤ L.length := by
  unfold wantN
  rw [List.length_map]
  exact Nat.le_trans (List.length_filter_le _ _) S.few

theorem tens_few (S : Sk L th) : (tens th).length ≤ L.length := by
  unfold tens
  rw [List.length_map]
  exact Nat.le_trans (List.length_filter_le _ _) S.few

theorem want_in (S : Sk L th) (hl : L.length ≤ 400) : ∀ z, z ∈ wantN c sw th → InI z := fun z hz => by
  unfold wantN at hz
  obtain ⟨T, hT, rfl⟩ := List.mem_map.1 hz
  have := S.le (List.mem_filter.1 hT).1
  unfold InI
  omega

/-- The place of the first. -/
def fstp (L : List LT) (l : List Int) : Int := (l.map (plc L)).headD 0

theorem fstp_app {l m : List Int} (h : l ≠ []) : fstp L (l ++ m) = fstp L l := by
  cases l with
  | nil => exact absurd rfl h
  | cons z l => rfl

theorem nos_pos (S : Sk L th) (H : Ax w b g c x sw ws th) {q : Tng → Bool} {n : Nat} {z : Int} (hz : z ∈ nos th q n) : 1 ≤ plc L z ∧ plc L z ≤ 262145 := by
  unfold nos at hz
  obtain ⟨T, hT, rfl⟩ := List.mem_map.1 hz
  have hm := (List.mem_filter.1 hT).1
  have := H.pos hm
  rw [S.plc hm]
  omega

theorem fstp_pos (S : Sk L th) (H : Ax w b g c x sw ws th) {q : Tng → Bool} {n : Nat} : 0 ≤ fstp L (nos th q n) ∧ fstp L (nos th q n) ≤ 262145 ∧ (fstp L (nos th q n) = 0 ↔ nos th q n = []) := by
  cases e : nos th q n with
  | nil => simp [fstp]
  | cons z l =>
    have := nos_pos S H (q := q) (n := n) (z := z) (by rw [e]; exact List.mem_cons_self ..)
    have e2 : fstp L (z :: l) = plc L z := rfl
    rw [e2]
    exact ⟨by omega, this.2, ⟨fun h => by omega, fun h => by simp at h⟩⟩

/-- The step of the loop: the next one is wanted. -/
theorem fstp_yes (S : Sk L th) (H : Ax w b g c x sw ws th) {q : Tng → Bool} {n : Nat} {T : Tng} (hT : T ∈ th) (hn : T.no = n) (hq : q T = true) : nos th q (n + 1) = nos th q n ++ [(n : Int)] ∧ fstp L (nos th q (n + 1)) = if fstp L (nos th q n) = 0 then plc L n else fstp L (nos th q n) := by
  have e := nos_yes S hT hn hq
  refine ⟨e, ?_⟩
  rw [e]
  have h := (fstp_pos S H (q := q) (n := n)).2.2
  by_cases h0 : nos th q n = []
  · rw [if_pos (h.2 h0), h0]
    rfl
  · rw [if_neg (fun hh => h0 (h.1 hh)), fstp_app h0]

/-- What Missing tells of an empty set. -/
theorem missing_last (S : Sk L th) (H : Ax w b g c x sw ws th) {r : Int} {d : Bool}
    (h : (d = false ∧ r = 0 ∧ ∀ T, T ∈ th.filter (inS 4) → miss c sw (fun a => decide (a ∈ ([] : List Int))) T = false) ∨ (d = true ∧ ∃ pre T post, th.filter (inS 4) = pre ++ T :: post ∧ miss c sw (fun a => decide (a ∈ ([] : List Int))) T = true ∧ (∀ U, U ∈ pre → miss c sw (fun a => decide (a ∈ ([] : List Int))) U = false) ∧ r = T.at_)) :
    r = fstp L (wantN c sw th) ∧ d = decide (0 < r) := by
  have hm : ∀ T, miss c sw (fun a => decide (a ∈ ([] : List Int))) T = hyT c sw T := fun T => by unfold miss; simp
  have hw : wantN c sw th = ((th.filter (inS 4)).filter (hyT c sw)).map (fun T => (T.no : Int)) := by
    unfold wantN
    rw [List.filter_filter]
    congr 1
    refine List.filter_congr (fun T _ => ?_)
    unfold q4T
    exact Bool.and_comm _ _
  rw [hw]
  rcases h with ⟨rfl, rfl, h⟩ | ⟨rfl, pre, T, post, e, h1, h2, rfl⟩
  · have e0 : (th.filter (inS 4)).filter (hyT c sw) = [] := by
      rw [List.filter_eq_nil_iff]
      intro T hT
      have := h T hT
      rw [hm] at this
      rw [this]
      simp
    rw [e0]
    exact ⟨rfl, by simp⟩
  · have hp : pre.filter (hyT c sw) = [] := by
      rw [List.filter_eq_nil_iff]
      intro U hU
      have := h2 U hU
      rw [hm] at this
      rw [this]
      simp
    rw [hm] at h1
    have hTm : T ∈ th := (List.mem_filter.1 (show T ∈ th.filter (inS 4) by rw [e]; simp)).1
    rw [e, List.filter_append, hp, List.nil_append, List.filter_cons_of_pos h1, List.map_cons]
    have e2 : fstp L ((T.no : Int) :: (post.filter (hyT c sw)).map (fun T => (T.no : Int))) = plc L T.no := rfl
    rw [e2, S.plc hTm]
    have := H.pos hTm
    exact ⟨rfl, by rw [decide_eq_true]; omega⟩
end

/-- Behind Rebuild or Prune: the list and Held are as the numbers say that are wanted. -/
def Rt (w1 : World) (n1 : Nat) (W : World) (mm lb b sb g mb : Nat) (c : Cfg) (x : Tps) (L : List LT) (fv : Value) (Fr : List (Nat × List Int)) (n2 : Nat) (want : List Int) (none_ : Bool) : Prop :=
  ∃ lv ws th l n S, Al w1 n1 W mm lb b sb g mb lv c x ws th l n S L fv Fr n2 ∧ Sk L th ∧ Ag L th (Fr.map (·.2)) ∧ wantN c false th = want ∧ l = want.map (plc L) ∧ (∀ T, T ∈ th → T.h = decide ((T.no : Int) ∈ want)) ∧ (∀ T, T ∈ th → inS 4 T = false → T.h = false) ∧ n ≤ 400 ∧ (none_ = true → ∀ V, V ∈ th.filter (inS 4) → miss c false S V = false)

section
variable {w1 W W' : World} {n1 mm lb b sb g mb n n2 : Nat} {lv fv : Value} {c : Cfg} {x : Tps} {ws : Nat → Int} {th : List Tng} {l want : List Int} {S : Int → Bool} {L : List LT} {Fr : List (Nat × List Int)} {nn : Bool}

theorem Rt.below (H : Rt w1 n1 W mm lb b sb g mb c x L fv Fr n2 want nn) (h : Below W.heap.size W W') : Rt w1 n1 W' mm lb b sb g mb c x L fv Fr n2 want nn := by
  obtain ⟨lv, ws, th, l, n, S, h1, h2⟩ := H
  exact ⟨lv, ws, th, l, n, S, h1.below h, h2⟩

/-- A list of one's own stays over the Set's calls. -/
theorem Al.mine (H : Al w1 n1 W mm lb b sb g mb lv c x ws th l n S L fv Fr n2) (t : Touch [sb, mb, b, g] W W') {base m : Nat} {v : Value} {xs : List Value} (h : W.ownsRow base 3 1 v m xs) : W'.ownsRow base 3 1 v m xs := by
  obtain ⟨⟨gs, hgs⟩, bs, hbs⟩ := H.rm.bq.ax.ar.rowTy
  refine row_keep h (fun q hq => t.block q (row_lt h q hq) ?_)
  rcases h.2 with ⟨e, _⟩ | ⟨y, cp, cur, e, _, hy, _⟩
  · rw [e] at hq; simp [Value.ownBlock] at hq
  · rw [e] at hq
    simp [Value.ownBlock] at hq
    subst hq
    simp only [List.mem_cons, List.not_mem_nil, or_false, not_or]
    exact ⟨heap_ty_ne hy H.rm.rs.own (by decide), fun e => H.rm.rs.map.ne hy e, heap_ty_ne hy hbs (by decide), heap_ty_ne hy hgs (by decide)⟩

theorem Rt.mine (H : Rt w1 n1 W mm lb b sb g mb c x L fv Fr n2 want nn) (t : Touch [sb, mb, b, g] W W') {base m : Nat} {v : Value} {xs : List Value} (h : W.ownsRow base 3 1 v m xs) : W'.ownsRow base 3 1 v m xs := by
  obtain ⟨lv, ws, th, l, n, S, h1, h2⟩ := H
  exact h1.mine t h

theorem rt_rebuild (H : Al w1 n1 W mm lb b sb g mb lv c x ws th l n S L fv Fr n2) (sk : Sk L th) (ag : Ag L th (Fr.map (·.2))) (h0 : ∀ T, T ∈ th → inS 4 T = false → T.h = false) (hl : L.length ≤ 400) :
    Calls Tryd.prog 16 #[.pointer (some ⟨sb, 0, none⟩)] W fun e w' => e = .returned (.tuple #[]) ∧ Touch [sb, mb, b, g] W w' ∧ Rt w1 n1 w' mm lb b sb g mb c x L fv Fr n2 (wantN c false th) true := by
  have hf := sk.few
  refine (rebuild_any H.rm (by omega)).mono (fun e w' ⟨h1, t, lv', ws', hR⟩ => ⟨h1, t, lv', ws', _, _, _, _, H.touch t hR, sk.heldAll _ _, ag.heldAll _ _, want_mk _ _ _ _ _, rebuilt_list sk H.rm.bq.ax, fun V hV => ?_, fun V hV => ?_, ?_, fun _ => ?_⟩)
  · exact (rebuilt_held sk H.rm.bq.ax h0 _ V hV).1
  · exact (rebuilt_held sk H.rm.bq.ax h0 _ V hV).2
  · exact Nat.le_trans (tens_few sk) hl
  · exact rebuilt_none H.rm.bq.ax _

theorem Rt.again (H : Rt w1 n1 W mm lb b sb g mb c x L fv Fr n2 want nn) (hl : L.length ≤ 400) :
    Calls Tryd.prog 16 #[.pointer (some ⟨sb, 0, none⟩)] W fun e w' => e = .returned (.tuple #[]) ∧ Touch [sb, mb, b, g] W w' ∧ Rt w1 n1 w' mm lb b sb g mb c x L fv Fr n2 want true := by
  obtain ⟨lv, ws, th, l, n, S, h1, sk, ag, h2, h3, h4, h5, h6, h7⟩ := H
  have h := rt_rebuild h1 sk ag h5 hl
  rw [h2] at h
  exact h

theorem Rt.missing (H : Rt w1 n1 W mm lb b sb g mb c x L fv Fr n2 want true) :
    Calls Tryd.prog 15 #[.pointer (some ⟨sb, 0, none⟩)] W fun e w' => ∃ r : Int, e = .returned (.tuple #[.int .i64 r, .bool false]) ∧ Below W.heap.size W w' := by
  obtain ⟨lv, ws, th, l, n, S, h1, sk, ag, h2, h3, h4, h5, h6, h7⟩ := H
  refine (missing_any h1.rm).mono ?_
  rintro e w' ⟨r, d, rfl, hd, hb⟩
  rcases hd with ⟨rfl, rfl, -⟩ | ⟨rfl, pre, T, post, e, h8, -, -⟩
  · exact ⟨0, rfl, hb⟩
  · have := h7 rfl T (by rw [e]; simp)
    rw [this] at h8
    simp at h8

theorem Rt.right (H : Rt w1 n1 W mm lb b sb g mb c x L fv Fr n2 want nn) (ok : LOk c L) {v : Value} (hv : Lrd W.heap.size W v .i64 want) :
    Calls Tryd.prog 17 #[.pointer (some ⟨mm, 0, none⟩), v, fv] W fun e w' => e = .returned (.bool true) ∧ Below W.heap.size W w' := by
  obtain ⟨lv, ws, th, l, n, S, h1, sk, ag, h2, h3, h4, h5, h6, h7⟩ := H
  have hl := ok.len
  exact right_yes h1.mm_ h1.ly ok h1.rm sk hv (by rw [← h2]; exact want_in sk hl) (by rw [← h2]; exact Nat.le_trans (want_few sk) hl) h1.fd ag h3 h4

theorem Rt.prune (H : Rt w1 n1 W mm lb b sb g mb c x L fv Fr n2 want nn) (hl : L.length ≤ 400) :
    Calls Tryd.prog 18 #[.pointer (some ⟨sb, 0, none⟩), .slice none 0 0] W fun e w' => e = .returned (.tuple #[]) ∧ Touch [sb, mb, b, g] W w' ∧ Below n1 w1 w' ∧ ∀ v, Lrd w'.heap.size w' v .i64 want → ∀ ok : LOk c L, Calls Tryd.prog 17 #[.pointer (some ⟨mm, 0, none⟩), v, fv] w' fun e w'' => e = .returned (.bool true) ∧ Below w'.heap.size w' w'' := by
  obtain ⟨lv, ws, th, l, n, S, h1, sk, ag, h2, h3, h4, h5, h6, h7⟩ := H
  subst h2
  have hT : ∀ a, a ∈ l → ∃ T, T ∈ th ∧ T.at_ = a := fun a ha => by
    rw [h3] at ha
    obtain ⟨z, hz, rfl⟩ := List.mem_map.1 ha
    unfold wantN at hz
    obtain ⟨T, hT, rfl⟩ := List.mem_map.1 hz
    have := (List.mem_filter.1 hT).1
    exact ⟨T, this, (sk.plc this).symm⟩
  have hll : l.length ≤ 400 := by rw [h3, List.length_map]; exact Nat.le_trans (want_few sk) hl
  have hnd : l.Nodup := by
    rw [h3]
    unfold wantN
    rw [List.map_map, List.nodup_iff_pairwise_ne, List.pairwise_map]
    refine (sk.ord.filter (q4T c false)).imp_of_mem (fun {T U} hT hU h e => ?_)
    have h1' := (List.mem_filter.1 hT).1
    have h2' := (List.mem_filter.1 hU).1
    have e' : plc L T.no = plc L U.no := e
    rw [sk.plc h1', sk.plc h2'] at e'
    have e3 := at_inj h1.rm.bq.ax h1' h2' e'
    rw [e3] at h
    omega
  have hd : ded (l ++ []) = l := by rw [List.append_nil]; exact ded_nodup l hnd
  have hp := prune_any h1.rm (.slice none 0 0) [] ⟨none, 0, rfl, Nat.le_refl _, fun f z hz => by simp at hz⟩ hT (fun a ha => by simp at ha) (by omega) (by simp) (by omega)
  rw [hd] at hp
  refine hp.mono ?_
  rintro e w' ⟨rfl, t, lv', ws', n', hR, hn'⟩
  have hA := h1.touch t hR
  obtain ⟨e1, e2⟩ := pruned_held sk h1.rm.bq.ax h3 h4 S
  refine ⟨rfl, t, hA.rm.bq.be, fun v hv ok => ?_⟩
  exact right_yes hA.mm_ hA.ly ok hA.rm (sk.heldAll _ _) hv (want_in sk hl) (Nat.le_trans (want_few sk) hl) hA.fd (ag.heldAll _ _) (e1.trans h3) e2
end

end Go.Proofs.YtfihjmoaibmllaaDoor

