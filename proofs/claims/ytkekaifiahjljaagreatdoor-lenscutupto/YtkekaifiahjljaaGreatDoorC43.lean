import Derived.Test.YtkekaifiahjljaaGreatDoorC42
import Derived.Test.YtkekaifiahjljaaGreatDoorC29
import Derived.Test.YtkekaifiahjljaaGreatDoorC10
set_option linter.unusedVariables false
set_option maxHeartbeats 8000000
set_option maxRecDepth 20000
namespace Go.Proofs.YtkekaifiahjljaaGreatDoor
open Go.RowKit Go.Shelf Go.Proofs.YtkekaifiahjljaaGreatDoor.Lt
theorem cutZ_snoc {n : Int} {l : List Int} {k : Nat} {z : Int} (h : l[k]? = some z) : cutZ n (l.take (k + 1)) = cutZ n (l.take k) ++ [if z = n then 0 else z] := by
  rw [List.take_add_one, h, cutZ_app]
  rfl
theorem cut17_any (n0 : Nat) (w : World) (hn0 : n0 ≤ w.heap.size) (v : Value) (l : List Int) (x : Int) (hl : Lrd n0 w v .i64 l) (hlen : l.length ≤ 1000000000) :
    Calls Tryz.prog 31 #[v, .int .i64 x] w fun e w' => ∃ v', e = .returned v' ∧ Il w' w.heap.size v' (cutZ x l) ∧ Below w.heap.size w w' := by
  obtain ⟨pa, pc, rfl, -, hp⟩ := hl
  have HP : Hid (∀ (f : Nat) z, l[f]? = some z → ∃ q off, pa = some ⟨q, off, none⟩ ∧ q < n0 ∧ w.cell? ⟨q, off + f, none⟩ = some (.int .i64 z)) := hp
  clear hp
  obtain ⟨i0, hi0, hj0, hj1, hj2⟩ := info_p17 infoI17
  have HI : Hid (Tryz.prog.info? 3 = some i0 ∧ i0.zero = some (.int .i64 0) ∧ i0.size = 1 ∧ i0.bytes = 8) := ⟨hi0, hj0, hj1, hj2⟩
  clear hi0 hj0 hj1 hj2
  go_enter Tryz.func31, Tryz.ntmps31
  go_wp2
  go_loopw [5, 6, 7] (fun v5 v6 _ wr => ∃ k : Nat, v6 = .int .i64 (k : Nat) ∧ k ≤ l.length ∧ Hid (Il wr w.heap.size v5 (cutZ x (l.take k))) ∧ Hid (Below w.heap.size w wr)) (fun _ v6 _ _ => l.length - (intOf v6).toNat)
  case atStart => exact ⟨0, rfl, Nat.zero_le _, World.ownsRow_nil _ _ _ _, Below.refl _ _⟩
  case round =>
    obtain ⟨k, rfl, hk, Hr1, Hr2⟩ := hrel
    by_cases hlt : k < l.length
    · obtain ⟨z, hz⟩ : ∃ z, l[k]? = some z := ⟨_, List.getElem?_eq_getElem hlt⟩
      obtain ⟨q, off, rfl, hq, hc⟩ := HP.out k z hz
      have ck : wr.cell? ⟨q, off + k, none⟩ = some (.int .i64 z) := (Hr2.out.cell (p := ⟨q, off + k, none⟩) (Nat.lt_of_lt_of_le hq hn0)).trans hc
      have hkI : (k : Int) < (l.length : Int) := by omega
      have HN : Hid (cutZ x (l.take (k + 1)) = cutZ x (l.take k) ++ [if z = x then 0 else z]) := cutZ_snoc hz
      have hln : (cutZ x (l.take k)).length ≤ l.length := by rw [cutZ_len, List.length_take]; omega
      obtain ⟨zz, hzz⟩ : ∃ zz : Int, zz = if z = x then 0 else z := ⟨_, rfl⟩
      have HZ : Hid (zz = if z = x then 0 else z) := hzz
      rw [← hzz] at HN
      clear hz hc hq hzz
      go_upto_if 20 with fail
      go_cut [7] from 21 to 21 (fun v wq => v = .int .i64 zz ∧ wr = wq)
      case first =>
        by_cases e1 : z = x
        · have g1 : (z == x) = true := beq_iff_eq.2 e1
          have E1 : Hid (zz = 0) := by show _ = _; rw [HZ.out, if_pos e1]
          clear e1
          go_wp2
          go_meet
          exact ⟨by rw [E1.out], rfl⟩
        · have g1 : (z == x) = false := beq_eq_false_iff_ne.2 e1
          have E1 : Hid (zz = z) := by show _ = _; rw [HZ.out, if_neg e1]
          clear e1
          go_wp2
          go_meet
          exact ⟨by rw [E1.out], rfl⟩
      case rest =>
      obtain ⟨rfl, rfl⟩ := hcut
      apply_assumption
      obtain ⟨a7, c7, rfl⟩ := own_sl17 Hr1.out
      have HRow : Hid ((wr.alloc (.cells #[.int .i64 zz] 3)).ownsRow w.heap.size 3 1 (.slice a7 (cutZ x (l.take k)).length c7) (cutZ x (l.take k)).length (Kg.ints (cutZ x (l.take k)))) := Il.below Hr1.out (Below.alloc (Below.refl _ _) (Nat.le_refl _) _)
      clear ck
      go_wp2_with (at_builtin; refine wpList_append_own_at _ rfl _ _ 24 rfl w.heap.size 3 i0 (.int .i64 0) 1 8 Tryz.underlying24 HI.out.1 HI.out.2.1 HI.out.2.2.1 HI.out.2.2.2 rfl (by decide) _ _ _ rfl HRow.out ⟨wr.heap.size, 0, none⟩ 1 1 [.int .i64 zz] rfl rfl (cell_one17 _ _ _) (by simp [Value.oneCell']) (by simp only [maxLen]; omega) (by omega) (by have := Hr2.out.size; simp; omega) ?_; intro v8 w8 h8 g8 _ _)
      go_roundw
      case rel =>
        obtain ⟨y1, y2, y3⟩ := Il.snoc Hr1.out h8 g8 Hr2.out.size
        exact ⟨k + 1, by go_num, by omega, by rw [HN.out]; exact y1, Hr2.out.trans y3⟩
      case measure => simp [intOf]; omega
    · have hkI : ¬ (k : Int) < (l.length : Int) := by omega
      have e9 : l.take k = l := List.take_of_length_le (by omega)
      rw [e9] at Hr1
      obtain ⟨a7, c7, rfl⟩ := own_sl17 Hr1.out
      go_wp2
      go_ret
      exact ⟨_, rfl, Hr1.out, Hr2.out⟩
theorem row_typed {w : World} {base n e size : Nat} {v : Value} {xs : List Value} (h : w.ownsRow base e size v n xs) {k : Nat} (hk : v.ownBlock = some k) : base ≤ k ∧ ∃ cs, w.heap[k]? = some (.cells cs e (0, 0)) := by
  rcases h.2 with ⟨rfl, -⟩ | ⟨g, cap, cur, rfl, hb, hg, -⟩
  · cases hk
  · cases hk
    exact ⟨hb, cur, hg⟩
def Oft (T : List TypeId) (G : List Nat) (w : World) : Prop := ∀ k, k ∈ G → w.heap.size ≤ k ∨ ∃ cs t d, w.heap[k]? = some (.cells cs t d) ∧ t ∈ T
theorem Oft.nil (T : List TypeId) (w : World) : Oft T [] w := fun k hk => by cases hk
theorem Oft.one {T : List TypeId} {w : World} {k : Nat} {cs : Array Value} {t : TypeId} {d : Nat × Nat} (h : w.heap[k]? = some (.cells cs t d)) (ht : t ∈ T) : Oft T [k] w := fun j hj => by
  rw [List.mem_singleton.1 hj]
  exact .inr ⟨cs, t, d, h, ht⟩
theorem Oft.row {T : List TypeId} {w : World} {base n e size : Nat} {v : Value} {xs : List Value} (h : w.ownsRow base e size v n xs) (ht : e ∈ T) : Oft T v.ownBlock.toList w := fun j hj => by
  obtain ⟨-, cs, h1⟩ := row_typed h (Option.mem_toList.1 hj)
  exact .inr ⟨cs, e, _, h1, ht⟩
theorem row_ty {w w' : World} {base n e size : Nat} {v : Value} {xs : List Value} {G : List Nat} {T : List TypeId} (h : w.ownsRow base e size v n xs) (t : Kg.Touch G w w') (hG : Oft T G w) (hT : e ∉ T) : w'.ownsRow base e size v n xs :=
  Kg.row_keep2 h t (fun k hk hm => by
    obtain ⟨-, cs, h1⟩ := row_typed h hk
    rcases hG k hm with h2 | ⟨cs', t', d, h2, h3⟩
    · have := Kg.heap_lt h1
      omega
    · rw [h1] at h2
      cases h2
      exact hT h3)
theorem heap_ty {w w' : World} {k : Nat} {cs : Array Value} {t : TypeId} {d : Nat × Nat} {G : List Nat} {T : List TypeId} (h : w.heap[k]? = some (.cells cs t d)) (tt : Kg.Touch G w w') (hG : Oft T G w) (hT : t ∉ T) : w'.heap[k]? = some (.cells cs t d) := by
  refine (tt.block k (Kg.heap_lt h) (fun hm => ?_)).trans h
  rcases hG k hm with h2 | ⟨cs', t', d', h2, h3⟩
  · have := Kg.heap_lt h
    omega
  · rw [h] at h2
    cases h2
    exact hT h3
theorem tw_next {W w w' : World} {H : Nat} {G : List Nat} (t : Kg.Touch [H] W w) (t2 : Kg.Touch G w w') (hG : ∀ k, k ∈ G → k = H ∨ W.heap.size ≤ k) : Kg.Touch [H] W w' :=
  ⟨t2.os.trans t.os, t2.tape.trans t.tape, t2.output.trans t.output, Nat.le_trans t.size t2.size, fun k hk hn => (t2.block k (Nat.lt_of_lt_of_le hk t.size) (fun hm => by
    rcases hG k hm with h1 | h1
    · exact hn (by rw [h1]; simp)
    · omega)).trans (t.block k hk hn)⟩
def ofl (l : List OL) : List Value := l.flatMap (fun x => x.cells.toList)
theorem cells5 (x : OL) : x.cells.toList.length = 5 := rfl
theorem ofl_at : ∀ (l : List OL) (i : Nat) x, l[i]? = some x → ∀ j, j < 5 → (ofl l)[i * 5 + j]? = x.cells[j]?
  | [], i, x, h => by simp at h
  | y :: l, 0, x, h => fun j hj => by
    simp only [List.getElem?_cons_zero, Option.some.injEq] at h
    subst h
    have hl := cells5 y
    show (y.cells.toList ++ ofl l)[0 * 5 + j]? = _
    rw [Nat.zero_mul, Nat.zero_add, List.getElem?_append_left (by rw [hl]; exact hj), Array.getElem?_toList]
  | y :: l, i + 1, x, h => fun j hj => by
    simp only [List.getElem?_cons_succ] at h
    have hl := cells5 y
    have ih := ofl_at l i x h j hj
    show (y.cells.toList ++ ofl l)[(i + 1) * 5 + j]? = _
    rw [List.getElem?_append_right (by rw [hl]; omega), hl, show (i + 1) * 5 + j - 5 = i * 5 + j by omega]
    exact ih
structure Mo (w : World) (B : Nat) (n : Int) (os os' : List OL) (v : Value) : Prop where
  r : w.ownsRow B 39 5 v os'.length (ofl os')
  l : os'.length ≤ os.length
  e : ∀ (j : Nat) x, os[j]? = some x → ∀ x', os'[j]? = some x' → x'.o = cutO n x.o ∧ x'.vr = x.vr ∧ Il w B x'.vp x'.o.ps
structure Fo (w : World) (B : Nat) (t : Value × List (Value × List Int)) : Prop where
  r : w.ownsRow B 24 1 t.1 t.2.length (t.2.map (·.1))
  l : ∀ x, x ∈ t.2 → Il w B x.1 x.2
structure So (w : World) (B : Nat) (ts' : List (Value × List (Value × List Int))) (v : Value) : Prop where
  r : w.ownsRow B 48 1 v ts'.length (ts'.map (·.1))
  l : ∀ t, t ∈ ts' → Fo w B t
section
variable {w w' : World} {B : Nat} {n : Int} {os os' : List OL} {v : Value} {ts' : List (Value × List (Value × List Int))} {t : Value × List (Value × List Int)} {G : List Nat} {T : List TypeId}
theorem Mo.keep (h : Mo w B n os os' v) (tt : Kg.Touch G w w') (hG : Oft T G w) (h1 : 3 ∉ T) (h2 : 39 ∉ T) : Mo w' B n os os' v :=
  ⟨row_ty h.r tt hG h2, h.l, fun j x hx x' hx' => by
    obtain ⟨a, b, c⟩ := h.e j x hx x' hx'
    exact ⟨a, b, row_ty c tt hG h1⟩⟩
theorem Fo.keep (h : Fo w B t) (tt : Kg.Touch G w w') (hG : Oft T G w) (h1 : 3 ∉ T) (h2 : 24 ∉ T) : Fo w' B t :=
  ⟨row_ty h.r tt hG h2, fun x hx => row_ty (h.l x hx) tt hG h1⟩
theorem So.keep (h : So w B ts' v) (tt : Kg.Touch G w w') (hG : Oft T G w) (h1 : 3 ∉ T) (h2 : 24 ∉ T) (h3 : 48 ∉ T) : So w' B ts' v :=
  ⟨row_ty h.r tt hG h3, fun x hx => (h.l x hx).keep tt hG h1 h2⟩
theorem row_at5 {e size m : Nat} {xs : List Value} (h : w.ownsRow B e size v m xs) : ∃ a cap, v = .slice a m cap ∧ ∀ (i : Nat) u, xs[i]? = some u → ∃ q, a = some ⟨q, 0, none⟩ ∧ q < w.heap.size ∧ w.cell? ⟨q, i, none⟩ = some u := by
  rcases h.2 with ⟨rfl, rfl⟩ | ⟨g, cap, cur, rfl, hb, hg, hn, hm, hs, ht⟩
  · refine ⟨none, 0, rfl, fun i u hu => ?_⟩
    have h1 := h.1
    rw [Nat.zero_mul] at h1
    rw [List.eq_nil_of_length_eq_zero h1] at hu
    simp at hu
  · refine ⟨_, _, rfl, fun i u hu => ⟨g, rfl, Kg.heap_lt hg, ?_⟩⟩
    rw [Kg.heap_cell hg]
    have hi := (List.getElem?_eq_some_iff.1 hu).1
    rw [h.1] at hi
    rw [← ht, List.getElem?_take, if_pos hi, Array.getElem?_toList] at hu
    exact hu
theorem Mo.ord (h : Mo w B n os os' v) (hl : os'.length = os.length) (hr : ∀ x, x ∈ os → Lrd w.heap.size w x.vr .u64 (x.o.rs.map Int.ofNat)) : Ord w.heap.size w v os' ∧ os'.map (·.o) = os.map (fun x => cutO n x.o) := by
  have key : ∀ (i : Nat) x', os'[i]? = some x' → ∃ x, os[i]? = some x ∧ x'.o = cutO n x.o ∧ x'.vr = x.vr ∧ Il w B x'.vp x'.o.ps := fun i x' hx' => by
    have hi := (List.getElem?_eq_some_iff.1 hx').1
    have hx : os[i]? = some (os[i]'(by omega)) := List.getElem?_eq_getElem (by omega)
    exact ⟨_, hx, h.e i _ hx x' hx'⟩
  obtain ⟨a, cap, e, hc⟩ := row_at5 h.r
  refine ⟨⟨a, cap, e, fun i x' hx' => ?_⟩, List.ext_getElem? (fun i => ?_)⟩
  · obtain ⟨x, hx, h1, h2, h3⟩ := key i x' hx'
    have h4 := hr x (List.mem_of_getElem? hx)
    refine ⟨h3.lrd, by rw [h2, h1]; exact h4, ?_⟩
    have hc0 := ofl_at os' i x' hx'
    have hl5 : ∀ j, j < 5 → ∃ u, x'.cells[j]? = some u := fun j hj => by
      have : x'.cells.size = 5 := by show (ocs _ _ _ _ _).size = 5; rfl
      exact ⟨_, Array.getElem?_eq_getElem (by omega)⟩
    obtain ⟨u0, hu0⟩ := hl5 0 (by omega)
    obtain ⟨q, hq, hq2, -⟩ := hc (i * 5 + 0) u0 ((hc0 0 (by omega)).trans hu0)
    refine ⟨q, 0, hq, hq2, fun j hj => ?_⟩
    obtain ⟨u, hu⟩ := hl5 j hj
    obtain ⟨q', hq', -, h6⟩ := hc (i * 5 + j) u ((hc0 j hj).trans hu)
    rw [hq] at hq'
    cases hq'
    rw [hu, Nat.zero_add]
    exact h6
  · rw [List.getElem?_map, List.getElem?_map]
    cases hx' : os'[i]? with
    | none =>
      have hi := List.getElem?_eq_none_iff.1 hx'
      rw [List.getElem?_eq_none (by omega)]
      rfl
    | some x' =>
      obtain ⟨x, hx, h1, -⟩ := key i x' hx'
      rw [hx]
      simp only [Option.map_some, h1]
theorem Fo.frd (h : Fo w B t) : Frd w.heap.size w t.1 t.2 := by
  obtain ⟨a, cap, e, hc⟩ := row_at5 h.r
  refine ⟨a, cap, e, fun i x hx => ⟨(h.l x (List.mem_of_getElem? hx)).lrd, ?_⟩⟩
  obtain ⟨q, h1, h2, h3⟩ := hc i x.1 (by rw [List.getElem?_map, hx]; rfl)
  exact ⟨q, 0, h1, h2, by rw [Nat.zero_add]; exact h3⟩
theorem So.trd (h : So w B ts' v) : Trd w.heap.size w v ts' := by
  obtain ⟨a, cap, e, hc⟩ := row_at5 h.r
  refine ⟨a, cap, e, fun i x hx => ⟨(h.l x (List.mem_of_getElem? hx)).frd, ?_⟩⟩
  obtain ⟨q, h1, h2, h3⟩ := hc i x.1 (by rw [List.getElem?_map, hx]; rfl)
  exact ⟨q, 0, h1, h2, by rw [Nat.zero_add]; exact h3⟩
end
section
variable {n0 B : Nat} {w : World} {vo vs vh vr vq vo' vs' vh' vq' : Value} {os os' : List OL} {ts ts' : List (Value × List (Value × List Int))} {g : Im.Gr} {x : Int}
theorem fsum_cut (x : Int) (l : List (List Int)) : fsum (l.map (cutZ x)) = fsum l := by
  unfold fsum
  rw [List.map_map]
  congr 1
  exact List.map_congr_left (fun y _ => cutZ_len x y)
theorem sln_cut (hs : Sln ts) (hE : ts'.map (fun t => t.2.map (·.2)) = ts.map (fun t => (t.2.map (·.2)).map (cutZ x))) : Sln ts' := by
  have hl : ts'.length = ts.length := by simpa using congrArg List.length hE
  refine ⟨by rw [hl]; exact hs.t, fun t ht => ?_⟩
  obtain ⟨i, hi⟩ := List.getElem?_of_mem ht
  have hi2 := (List.getElem?_eq_some_iff.1 hi).1
  have ho : ts[i]? = some (ts[i]'(by omega)) := List.getElem?_eq_getElem (by omega)
  have h1 := congrArg (fun l => l[i]?) hE
  simp only [List.getElem?_map, hi, ho, Option.map_some, Option.some.injEq] at h1
  obtain ⟨h2, h3⟩ := hs.f _ (List.mem_of_getElem? ho)
  constructor
  · have := congrArg List.length h1
    simp only [List.length_map] at this
    omega
  · rw [h1, fsum_cut]
    exact h3
theorem cut_grd (hg : Grd n0 w vo vs vh vr vq os ts g) (hn : n0 ≤ w.heap.size) (hM : Mo w B x os os' vo') (hol : os'.length = os.length) (hS : So w B ts' vs') (hE : ts'.map (fun t => t.2.map (·.2)) = ts.map (fun t => (t.2.map (·.2)).map (cutZ x))) (hI : Il w B vh' (cutZ x g.hs)) (hJ : Il w B vq' (cutZ x g.qu)) :
    Grd w.heap.size w vo' vs' vh' (.slice none 0 0) vq' os' ts' (cutG x g) := by
  obtain ⟨h1, h2⟩ := hM.ord hol (fun y hy => by
    obtain ⟨i, hi⟩ := List.getElem?_of_mem hy
    obtain ⟨a, cap, -, h⟩ := hg.ob
    exact (h i y hi).2.1.mono hn)
  refine ⟨h1, hS.trd, hI.lrd, ⟨none, 0, rfl, Nat.le_refl _, fun f z hz => by simp [cutG] at hz⟩, hJ.lrd, ?_, ?_, by show 0 < 18446744073709551616; decide, fun o ho => ?_⟩
  · rw [h2]
    show g.obs.map (cutO x) = _
    rw [hg.eo, List.map_map]
    rfl
  · show g.slots.map _ = _
    rw [hE, hg.es, List.map_map]
    rfl
  · obtain ⟨o', ho', rfl⟩ := List.mem_map.1 ho
    obtain ⟨p1, p2, p3, p4, p5⟩ := hg.sr o' ho'
    exact ⟨p1, p2, p3, by show (cutZ x o'.ps).length ≤ _; rw [cutZ_len]; exact p4, p5⟩
theorem cut_len (hM : Mo w B x os os' vo') (hol : os'.length = os.length) {c : Nat} (hb : ∀ y, y ∈ os → y.o.ps.length ≤ c) : ∀ y, y ∈ os' → y.o.ps.length ≤ c := fun y hy => by
  obtain ⟨i, hi⟩ := List.getElem?_of_mem hy
  have hi2 := (List.getElem?_eq_some_iff.1 hi).1
  have ho : os[i]? = some (os[i]'(by omega)) := List.getElem?_eq_getElem (by omega)
  rw [(hM.e i _ ho y hi).1]
  show (cutZ x _).length ≤ c
  rw [cutZ_len]
  exact hb _ (List.mem_of_getElem? ho)
end
end Go.Proofs.YtkekaifiahjljaaGreatDoor
namespace Go.Proofs.YtkekaifiahjljaaGreatDoor
open Go.RowKit Go.Shelf
theorem holders17_any (n0 : Nat) (w : World) (vo vs vh vr vq : Value) (os : List OL) (ts : List (Value × List (Value × List Int))) (g : Im.Gr) (hg : Grd n0 w vo vs vh vr vq os ts g) (hn : n0 ≤ w.heap.size) (hs : Sln ts)
    (hel : (slotsF g.slots).length + g.hs.length + g.qu.length + g.rg.length ≤ 1000000000) :
    Calls Tryz.prog 11 #[.agg (gcs vo vs vh vr vq g.next)] w fun e w' => ∃ v, e = .returned v ∧ Il w' w.heap.size v (slotsF g.slots ++ (g.hs ++ g.qu)) ∧ Below w.heap.size w w' := by
  obtain ⟨i0, hi0, hj0, hj1, hj2⟩ := info_p17 infoI17
  have HI : Hid (Tryz.prog.info? 3 = some i0 ∧ i0.zero = some (.int .i64 0) ∧ i0.size = 1 ∧ i0.bytes = 8) := ⟨hi0, hj0, hj1, hj2⟩
  clear hi0 hj0 hj1 hj2
  have l1 : Below w.heap.size w (w.alloc (.cells (gcs vo vs vh vr vq g.next) 27)) := Below.alloc (Below.refl _ _) (Nat.le_refl _) _
  have hy := fun j => cell_of_row _ _ j _ _ _ (heap_alloc_new w (.cells (gcs vo vs vh vr vq g.next) 27 (0, 0)))
  have y0 : (w.alloc (.cells (gcs vo vs vh vr vq g.next) 27)).cell? ⟨w.heap.size, 0, none⟩ = some vo := hy 0
  have y1 : (w.alloc (.cells (gcs vo vs vh vr vq g.next) 27)).cell? ⟨w.heap.size, 1, none⟩ = some vs := hy 1
  have y2 : (w.alloc (.cells (gcs vo vs vh vr vq g.next) 27)).cell? ⟨w.heap.size, 2, none⟩ = some vh := hy 2
  have y3 : (w.alloc (.cells (gcs vo vs vh vr vq g.next) 27)).cell? ⟨w.heap.size, 3, none⟩ = some vr := hy 3
  have y4 : (w.alloc (.cells (gcs vo vs vh vr vq g.next) 27)).cell? ⟨w.heap.size, 4, none⟩ = some vq := hy 4
  have Hg : Hid (Grd n0 w vo vs vh vr vq os ts g) := hg
  have Hs : Hid (Sln ts) := hs
  have htl := hs.t
  have hx := hg.ob
  obtain ⟨a, cap, rfl, -⟩ := hx
  have hx := hg.sl
  obtain ⟨b, bcap, rfl, -⟩ := hx
  have hx := hg.hs
  obtain ⟨ah, hcap, rfl, -⟩ := hx
  have hx := hg.rg
  obtain ⟨ar, rcap, rfl, -⟩ := hx
  have hx := hg.qu
  obtain ⟨aq, qcap, rfl, -⟩ := hx
  have Heo : Hid (g.obs = os.map (·.o)) := hg.eo
  have Heol : Hid (g.obs.length = os.length) := by show _ = _; rw [hg.eo, List.length_map]
  have Hes : Hid (g.slots = ts.map (fun t => t.2.map (·.2))) := hg.es
  have Hel : Hid ((slotsF g.slots).length + g.hs.length + g.qu.length + g.rg.length ≤ 1000000000000) := by show _ ≤ _; omega
  have HelB : Hid ((slotsF g.slots).length + g.hs.length + g.qu.length ≤ 1000000000) := by show _ ≤ _; omega
  clear hg hy hs hel
  generalize hw1 : w.alloc (.cells (gcs (.slice a os.length cap) (.slice b ts.length bcap) (.slice ah g.hs.length hcap) (.slice ar g.rg.length rcap) (.slice aq g.qu.length qcap) g.next) 27) = w1 at *
  have e1 : w1.heap.size = w.heap.size + 1 := by rw [← hw1]; simp
  have HK : Hid (∀ w', Below w1.heap.size w1 w' → w'.cell? ⟨w.heap.size, 0, none⟩ = some (.slice a os.length cap) ∧ w'.cell? ⟨w.heap.size, 1, none⟩ = some (.slice b ts.length bcap) ∧ w'.cell? ⟨w.heap.size, 2, none⟩ = some (.slice ah g.hs.length hcap) ∧ w'.cell? ⟨w.heap.size, 3, none⟩ = some (.slice ar g.rg.length rcap) ∧ w'.cell? ⟨w.heap.size, 4, none⟩ = some (.slice aq g.qu.length qcap)) := fun w' b' => by
    have hlt : w.heap.size < w1.heap.size := by omega
    exact ⟨(b'.cell (p := ⟨w.heap.size, 0, none⟩) hlt).trans y0, (b'.cell (p := ⟨w.heap.size, 1, none⟩) hlt).trans y1, (b'.cell (p := ⟨w.heap.size, 2, none⟩) hlt).trans y2, (b'.cell (p := ⟨w.heap.size, 3, none⟩) hlt).trans y3, (b'.cell (p := ⟨w.heap.size, 4, none⟩) hlt).trans y4⟩
  have HGb : Hid (∀ w', Below w1.heap.size w1 w' → Below w.heap.size w w' ∧ Grd n0 w' (.slice a os.length cap) (.slice b ts.length bcap) (.slice ah g.hs.length hcap) (.slice ar g.rg.length rcap) (.slice aq g.qu.length qcap) os ts g) := fun w' b' => ⟨l1.trans (b'.mono l1.size), Hg.out.below ((l1.trans (b'.mono l1.size)).mono hn)⟩
  go_enter Tryz.func11, Tryz.ntmps11
  go_wp2
  go_loopw [3, 4, 5] (fun v3 v4 _ wr => ∃ k : Nat, k ≤ ts.length ∧ v4 = .int .i64 k ∧ Hid (wr.ownsRow w1.heap.size 3 1 v3 (slotsF (g.slots.take k)).length (Kg.ints (slotsF (g.slots.take k)))) ∧ Hid (Below w1.heap.size w1 wr)) (fun _ v4 _ _ => ts.length - (intOf v4).toNat)
  case atStart => exact ⟨0, Nat.zero_le _, rfl, World.ownsRow_nil _ _ _ _, Below.refl _ _⟩
  case round =>
    obtain ⟨k, hk, rfl, Hr, Hb⟩ := hrel
    obtain ⟨a3, c3, hv3⟩ := own_slI Hr.out
    subst hv3
    obtain ⟨z0, z1, z2, z3, z4⟩ := HK.out _ Hb.out
    by_cases hkl : k < ts.length
    · have hki : (k : Int) < (ts.length : Int) := by omega
      have hz : ts[k]? = some (ts[k]'hkl) := List.getElem?_eq_getElem hkl
      generalize ts[k]'hkl = x at hz
      obtain ⟨a', cap', ea, hob⟩ := (HGb.out _ Hb.out).2.sl
      cases ea
      obtain ⟨hp, q, off, rfl, hq, hc⟩ := hob k x hz
      have Hz : Hid (g.slots[k]? = some (x.2.map (·.2))) := by show _ = _; rw [Hes.out, List.getElem?_map, hz]; rfl
      have hxl := (Hs.out.f x (List.mem_of_getElem? hz)).1
      have Hp2 : Hid (∀ w', Below w1.heap.size w1 w' → Frd n0 w' x.1 x.2 ∧ w'.cell? ⟨q, off + k, none⟩ = some x.1) := fun w' b' => by
        obtain ⟨_, _, eb, hob'⟩ := (HGb.out _ b').2.sl
        obtain ⟨h1, _, _, h3, _, h4⟩ := hob' k x hz
        cases eb
        cases h3
        exact ⟨h1, h4⟩
      obtain ⟨ap, cp, ep, -⟩ := hp
      rw [ep] at hc Hp2
      have Hsl : Hid ((slotsF (g.slots.take (k + 1))).length ≤ 1000000000000) := by
        have h1 := slotsF_take g.slots (k + 1)
        have := Hel.out
        show _ ≤ _
        omega
      clear hob hz ep
      go_wp2
      go_loopw [3, 5] (fun v3 v5 wr => ∃ f : Nat, f ≤ x.2.length ∧ v5 = .int .i64 f ∧ Hid (wr.ownsRow w1.heap.size 3 1 v3 (slotsG g.slots k (x.2.map (·.2)) f).length (Kg.ints (slotsG g.slots k (x.2.map (·.2)) f))) ∧ Hid (Below w1.heap.size w1 wr)) (fun _ v5 _ => x.2.length - (intOf v5).toNat)
      case atStart => exact ⟨0, Nat.zero_le _, rfl, by rw [slotsG_zero]; exact Hr, Hb⟩
      case round =>
        obtain ⟨f, hf, rfl, Hr2, Hb2⟩ := hrel
        obtain ⟨a4, c4, hv4⟩ := own_slI Hr2.out
        subst hv4
        clear z0 z1 z2 z3 z4 hc
        obtain ⟨z0, z1, z2, z3, z4⟩ := HK.out _ Hb2.out
        obtain ⟨hfr, hc⟩ := Hp2.out _ Hb2.out
        by_cases hfl : f < x.2.length
        · have hfi : (f : Int) < (x.2.length : Int) := by omega
          have hy : x.2[f]? = some (x.2[f]'hfl) := List.getElem?_eq_getElem hfl
          generalize x.2[f]'hfl = y at hy
          obtain ⟨a'', cap'', ea, hob⟩ := hfr
          cases ea
          obtain ⟨hpp, q', off', rfl, hq', hc'⟩ := hob f y hy
          have Hy : Hid ((x.2.map (·.2))[f]? = some y.2) := by show _ = _; rw [List.getElem?_map, hy]; rfl
          have He : Hid (slotsG g.slots k (x.2.map (·.2)) (f + 1) = slotsG g.slots k (x.2.map (·.2)) f ++ y.2) := slotsG_snoc Hy.out
          have Hle : Hid ((slotsG g.slots k (x.2.map (·.2)) f).length + y.2.length ≤ 1000000000000) := by
            have h1 := slotsG_le Hz.out (f + 1)
            have h2 := congrArg List.length He.out
            rw [List.length_append] at h2
            have := Hsl.out
            show _ ≤ _
            omega
          have HN0 := hpp
          obtain ⟨ay, cy, ey, -⟩ := hpp
          rw [ey] at hc' HN0
          have HN : Hid (∀ (j : Nat) u, (Kg.ints y.2)[j]? = some u → ∃ ad, ay = some ad ∧ wr.cell? (ad.add j) = some u) := lrd_news HN0
          clear hob hy ey HN0
          go_wp2_with (at_builtin; refine Kg.wpList_append_row rfl _ _ 24 rfl w1.heap.size 3 i0 (.int .i64 0) 8 Tryz.underlying24 HI.out.1 HI.out.2.1 HI.out.2.2.1 HI.out.2.2.2 rfl _ _ _ rfl Hr2.out ay y.2.length cy (Kg.ints y.2) (by simp [Kg.ints]) rfl HN.out (by simp [Kg.ints, Value.oneCell']) (by have := Hle.out; simp only [maxLen]; omega) (by have := Hle.out; omega) Hb2.out.size ?_; intro v' w8 hown' hgrow _ hat _)
          go_roundw
          case rel =>
            refine ⟨f + 1, by omega, by go_num, ?_, ?_⟩
            · show w8.ownsRow _ _ _ _ _ _
              rw [He.out, List.length_append]
              simp only [Kg.ints, List.map_append] at hown' ⊢
              exact hown'
            · have t8 : Kg.Touch (Value.slice a4 (slotsG g.slots k (x.2.map (·.2)) f).length c4).ownBlock.toList wr w8 := Kg.Touch.grown hgrow (fun y hy => by rw [Option.mem_toList]; exact hy)
              exact Hb2.out.trans (t8.below Hb2.out.size (fun y hy => by rw [Option.mem_toList] at hy; exact (Hr2.out.lt y hy).1))
          case measure => simp [intOf]; omega
        · have hfi : ¬ (f : Int) < (x.2.length : Int) := by omega
          have e9 : slotsG g.slots k (x.2.map (·.2)) f = slotsF (g.slots.take (k + 1)) := slotsG_all Hz.out (by simp; omega)
          rw [e9] at Hr2 ⊢
          obtain ⟨a'', cap'', ea, -⟩ := hfr
          cases ea
          go_wp2
          go_roundw
          case rel => exact ⟨k + 1, by omega, by go_num, Hr2, Hb2⟩
          case measure => simp [intOf]; omega
    · have hki : ¬ (k : Int) < (ts.length : Int) := by omega
      have e9 : g.slots.take k = g.slots := List.take_of_length_le (by rw [Hes.out, List.length_map]; omega)
      rw [e9] at Hr ⊢
      have HE0l : Hid ((slotsF g.slots).length = (slotsF g.slots).length) := rfl
      obtain ⟨E0, hE0⟩ : ∃ E', E' = slotsF g.slots := ⟨_, rfl⟩
      rw [← hE0] at Hr ⊢
      have HE0 : Hid (E0 = slotsF g.slots) := hE0
      clear HE0l
      have HE0l : Hid (E0.length = (slotsF g.slots).length) := by show _ = _; rw [hE0]
      clear hE0
      have HN1 : Hid (∀ (j : Nat) u, (Kg.ints g.hs)[j]? = some u → ∃ ad, ah = some ad ∧ wr.cell? (ad.add j) = some u) := lrd_news (HGb.out _ Hb.out).2.hs
      have Hle1 : Hid (E0.length + g.hs.length ≤ 1000000000000) := by
        have := Hel.out
        have := HE0l.out
        show _ ≤ _
        omega
      go_upto_region 10 with (at_builtin; refine Kg.wpList_append_row rfl _ _ 24 rfl w1.heap.size 3 i0 (.int .i64 0) 8 Tryz.underlying24 HI.out.1 HI.out.2.1 HI.out.2.2.1 HI.out.2.2.2 rfl _ _ _ rfl Hr.out ah g.hs.length hcap (Kg.ints g.hs) (by simp [Kg.ints]) rfl HN1.out (by simp [Kg.ints, Value.oneCell']) (by have := Hle1.out; simp only [maxLen]; omega) (by have := Hle1.out; omega) Hb.out.size ?_; intro v1 wA hown1 hgrow1 _ hat1 _)
      have t1 := Kg.Touch.grown (F := (Value.ownBlock _).toList) hgrow1 (fun y hy => by rw [Option.mem_toList]; exact hy)
      have Hb1 : Hid (Below w1.heap.size w1 wA) := Hb.out.trans (t1.below Hb.out.size (fun y hy => by rw [Option.mem_toList] at hy; exact (Hr.out.lt y hy).1))
      obtain ⟨E1, hE1⟩ : ∃ E', E' = E0 ++ g.hs := ⟨_, rfl⟩
      have HE1 : Hid (E1 = E0 ++ g.hs) := hE1
      have HE1l : Hid (E1.length = E0.length + g.hs.length) := by show _ = _; rw [hE1, List.length_append]
      have Hr1 : Hid (wA.ownsRow w1.heap.size 3 1 v1 E1.length (Kg.ints E1)) := by
        show wA.ownsRow _ _ _ _ _ _
        rw [HE1l.out, hE1]
        simp only [Kg.ints, List.map_append] at hown1 ⊢
        exact hown1
      obtain ⟨al1, cl1, hvl1⟩ := own_slI Hr1.out
      subst hvl1
      clear hown1 hgrow1 hat1 t1 hE1 z0 z1 z2 z3 z4
      obtain ⟨z0, z1, z2, z3, z4⟩ := HK.out _ Hb1.out
      have HN2 : Hid (∀ (j : Nat) u, (Kg.ints g.qu)[j]? = some u → ∃ ad, aq = some ad ∧ wA.cell? (ad.add j) = some u) := lrd_news (HGb.out _ Hb1.out).2.qu
      have Hle2 : Hid (E1.length + g.qu.length ≤ 1000000000000) := by
        have := Hel.out
        have := HE1l.out
        have := HE0l.out
        show _ ≤ _
        omega
      go_wp2_with (at_builtin; refine Kg.wpList_append_row rfl _ _ 24 rfl w1.heap.size 3 i0 (.int .i64 0) 8 Tryz.underlying24 HI.out.1 HI.out.2.1 HI.out.2.2.1 HI.out.2.2.2 rfl _ _ _ rfl Hr1.out aq g.qu.length qcap (Kg.ints g.qu) (by simp [Kg.ints]) rfl HN2.out (by simp [Kg.ints, Value.oneCell']) (by have := Hle2.out; simp only [maxLen]; omega) (by have := Hle2.out; omega) Hb1.out.size ?_; intro v2 wB hown2 hgrow2 _ hat2 _)
      have t2 := Kg.Touch.grown (F := (Value.ownBlock _).toList) hgrow2 (fun y hy => by rw [Option.mem_toList]; exact hy)
      have Hb2 : Hid (Below w1.heap.size w1 wB) := Hb1.out.trans (t2.below Hb1.out.size (fun y hy => by rw [Option.mem_toList] at hy; exact (Hr1.out.lt y hy).1))
      obtain ⟨E2, hE2⟩ : ∃ E', E' = E1 ++ g.qu := ⟨_, rfl⟩
      have HE2 : Hid (E2 = E1 ++ g.qu) := hE2
      have HE2l : Hid (E2.length = E1.length + g.qu.length) := by show _ = _; rw [hE2, List.length_append]
      have Hr2 : Hid (wB.ownsRow w1.heap.size 3 1 v2 E2.length (Kg.ints E2)) := by
        show wB.ownsRow _ _ _ _ _ _
        rw [HE2l.out, hE2]
        simp only [Kg.ints, List.map_append] at hown2 ⊢
        exact hown2
      obtain ⟨al2, cl2, hvl2⟩ := own_slI Hr2.out
      subst hvl2
      clear hown2 hgrow2 hat2 t2 z0 z1 z2 z3 z4
      have HEE : Hid (Il wB w.heap.size (.slice al2 E2.length cl2) (slotsF g.slots ++ (g.hs ++ g.qu)) ∧ Below w.heap.size w wB) := by
        refine ⟨?_, (HGb.out _ Hb2.out).1⟩
        have e9 : E2 = slotsF g.slots ++ (g.hs ++ g.qu) := by rw [HE2.out, HE1.out, HE0.out, List.append_assoc]
        rw [← e9]
        exact Kg.row_base Hr2.out (by rw [e1]; omega)
      clear hE2
      go_wp2
      go_ret
      exact ⟨_, rfl, HEE.out⟩
end Go.Proofs.YtkekaifiahjljaaGreatDoor
