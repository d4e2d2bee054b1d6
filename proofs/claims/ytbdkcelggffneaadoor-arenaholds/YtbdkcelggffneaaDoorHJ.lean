/-
  made, of any step; Fill; Swap.
-/
import Derived.Test.YtbdkcelggffneaaDoorHIa
set_option linter.unusedVariables false
set_option maxRecDepth 20000
namespace Go.Proofs.YtbdkcelggffneaaDoor
open Go.RowKit Go.Shelf

theorem made_rep (z : Value) (n : Nat) : madeCells #[z] n = (List.replicate n z).toArray := by
  apply Array.ext
  · simp [size_madeCells]
  · intro i h1 h2
    simp [madeCells, Nat.mod_one]

section
variable {W0 w w' : World} {b g n0 : Nat} {c : Cfg} {x x' : Tps} {sw : Bool} {ws ws' : Nat → Int} {lv : Value} {th : List Tng}

theorem Mh.put (H : Mh w n0 g lv th) (hA : Ar w b g c x sw ws) (hn0 : n0 ≤ w.heap.size) (U : Tng) (v' : Value) (hrow : w'.ownsRow 0 81 11 v' (th.length + 1) (tflat th ++ U.cells.toList)) (hp : w'.heap[U.gp]? = some (.cells (U.ps.map (Value.int .i64)).toArray 3 (0, 0))) (hr : w'.heap[U.gr]? = some (.cells (U.rs.map (Value.int .u64)).toArray 38 (0, 0))) (h1 : w.heap.size ≤ U.gp) (h2 : U.gp < U.gr) (t : Touch (lfoot b g lv) w w') (hv : v'.ownBlock = lv.ownBlock ∨ ∃ y, v'.ownBlock = some y ∧ w.heap.size ≤ y) :
    Mh w' n0 g v' (th ++ [U]) := by
  obtain ⟨⟨gs, hg⟩, bs, hb⟩ := hA.rowTy
  have hgl := (Array.getElem?_eq_some_iff.1 hg).1
  have keep : ∀ V, V ∈ th → w'.heap[V.gp]? = w.heap[V.gp]? ∧ w'.heap[V.gr]? = w.heap[V.gr]? := fun V hV => by
    have e1 := heap_ty_ne (H.pb V hV).1 hb (by decide)
    have e2 := heap_ty_ne (H.pb V hV).1 hg (by decide)
    have e3 := heap_ty_ne (H.rb V hV).1 hb (by decide)
    have e4 := (H.rb V hV).2.2
    have e5 : some V.gp ≠ lv.ownBlock := row_ne (H.pb V hV).1 H.row (by decide)
    have e6 : some V.gr ≠ lv.ownBlock := row_ne (H.rb V hV).1 H.row (by decide)
    refine ⟨t.block _ (Array.getElem?_eq_some_iff.1 (H.pb V hV).1).1 ?_, t.block _ (Array.getElem?_eq_some_iff.1 (H.rb V hV).1).1 ?_⟩
    · simp only [lfoot, List.mem_cons, Option.mem_toList, not_or]
      exact ⟨e1, e2, fun e => e5 e.symm⟩
    · simp only [lfoot, List.mem_cons, Option.mem_toList, not_or]
      exact ⟨e3, e4, fun e => e6 e.symm⟩
  have lt : ∀ V, V ∈ th → V.gp < w.heap.size ∧ V.gr < w.heap.size := fun V hV => ⟨(Array.getElem?_eq_some_iff.1 (H.pb V hV).1).1, (Array.getElem?_eq_some_iff.1 (H.rb V hV).1).1⟩
  have mem : ∀ {V}, V ∈ th ++ [U] → V ∈ th ∨ V = U := fun hV => by simpa using hV
  refine ⟨?_, fun q hq => ?_, fun V hV => ?_, fun V hV => ?_, fun i j T V hi hj hij => ?_⟩
  · have e : tflat (th ++ [U]) = tflat th ++ U.cells.toList := by simp [tflat]
    rw [e, List.length_append]
    exact hrow
  · rcases hv with e | ⟨y, e, hy⟩
    · exact H.lvb q (by rw [← e]; exact hq)
    · rw [e] at hq
      simp at hq
      omega
  · rcases mem hV with h | rfl
    · rw [(keep V h).1]; exact H.pb V h
    · exact ⟨hp, by omega⟩
  · rcases mem hV with h | rfl
    · rw [(keep V h).2]; exact H.rb V h
    · exact ⟨hr, by omega, by omega⟩
  · have key : ∀ (k : Nat) V, (th ++ [U])[k]? = some V → (k < th.length ∧ th[k]? = some V) ∨ (k = th.length ∧ V = U) := fun k V hk => by
      rcases Nat.lt_or_ge k th.length with h | h
      · rw [List.getElem?_append_left h] at hk
        exact .inl ⟨h, hk⟩
      · rw [List.getElem?_append_right h] at hk
        have h3 := (List.getElem?_eq_some_iff.1 hk).1
        simp at h3
        have : k - th.length = 0 := by omega
        rw [this] at hk
        exact .inr ⟨by omega, by simpa using hk.symm⟩
    rcases key i T hi with ⟨i1, hi2⟩ | ⟨i1, e1⟩
    · rcases key j V hj with ⟨j1, hj2⟩ | ⟨j1, e2⟩
      · exact H.dp i j T V hi2 hj2 hij
      · have := lt T (List.mem_of_getElem? hi2)
        rw [e2]
        omega
    · rcases key j V hj with ⟨j1, hj2⟩ | ⟨j1, e2⟩
      · have := lt V (List.mem_of_getElem? hj2)
        rw [e1]
        omega
      · omega

theorem sp_out {S : Int} (hS : ¬ (1 ≤ S ∧ S ≤ 4)) (hA : Ar w b g c x sw ws) : bhd c S - x.top S ≤ 0 := by
  have h1 := hA.sub_in S
  have : x.top S = 0 := by unfold Tps.top; rw [if_neg (by omega), if_neg (by omega), if_neg (by omega), if_neg (by omega)]
  have : bhd c S ≤ 0 := by unfold bhd; rw [if_neg (by omega), if_neg (by omega), if_neg (by omega), if_neg (by omega)]; exact Int.le_refl _
  omega

theorem made_any (H : Iq W0 w b g c x sw ws lv th) (hlen : th.length ≤ 1000) (K S N B C W s k p r a t : Int) (h : Bool) (hs : Wd s) :
    Calls Tryd.prog 18 #[.pointer (some ⟨b, 0, none⟩), lv, dv K S N B C W s k p r a t h] w fun e w' => ∃ lv', e = .returned (.tuple #[lv', .bool true]) ∧ ∃ x' ws' th', Iq W0 w' b g c x' sw ws' lv' th' ∧ th'.length ≤ th.length + 1 := by
  have hlv : ∃ ad n m, lv = .slice ad n m := row_slice H.mh.row
  by_cases hf : flt k p r a t = 0
  · have may := May.of hf
    have hp0 : 0 ≤ p ∧ 0 ≤ r ∧ p ≤ 4095 ∧ r ≤ 65535 := by obtain ⟨h1, h2, h3, h4, h5, h6, h7, h8, h9, h10, h11, h12⟩ := may; omega
    by_cases hn : 2 + p + r ≤ bhd c S - x.top S
    · have hS : 1 ≤ S ∧ S ≤ 4 := by
        by_cases hS : 1 ≤ S ∧ S ≤ 4
        · exact hS
        · have := sp_out hS H.ar; omega
      obtain ⟨s0, rfl⟩ : ∃ s0 : Nat, S = s0 := ⟨S.toNat, by omega⟩
      have hsub := H.ar.sub_in s0
      obtain ⟨q, hq⟩ : ∃ q : Nat, x.top s0 = q := ⟨(x.top s0).toNat, by omega⟩
      obtain ⟨n, hn2⟩ : ∃ n : Nat, (n : Int) = 2 + p + r := ⟨(2 + p + r).toNat, by omega⟩
      obtain ⟨e1, e2, e3, e4, e5, e6, -, -⟩ := parts_wrd (h := h) may
      have hhd := head_wrd (h := h) may
      refine (made_yes b g c x sw ws lv th.length (tflat th) (by omega) K s0 N B C W s k p r a t h hs hf q n hq hn2 (by omega) w H.mh.row H.ar H.la hS (Tps.top_put _ _ _ hS)).mono ?_
      rintro e w' ⟨v', gp, gr, rfl, hrow, hgp, hgr, h1, h2, hA', t', hv'⟩
      have hF : ∀ q, q ∈ lfoot b g lv → W0.heap.size ≤ q := fun q hq => by
        simp only [lfoot, List.mem_cons, Option.mem_toList] at hq
        rcases hq with rfl | rfl | hq
        · exact H.gb
        · exact H.gg
        · exact H.mh.lvb q hq
      obtain ⟨hl', hb'⟩ := H.frame t' hF
      have hwp : ∀ y, wat c (putw ws q n (wrd k p r a t h) s) y = if y = (q : Int) + 1 then s else if y = q then wrd k p r a t h else if (q : Int) ≤ y ∧ y < q + n then 0 else wat c ws y := fun y => by
        unfold putw
        rw [wat_upd c _ (q + 1) s y (by omega), wat_upd c _ q _ y (by omega), wat_zer]
        push_cast
        rfl
      have hpt : ((p.toNat : Nat) : Int) = p := by omega
      have hrt : ((r.toNat : Nat) : Int) = r := by omega
      refine ⟨v', rfl, _, _, th ++ [⟨q, s0, s, k, p, r, a, t, h, gp, gr, List.replicate p.toNat 0, List.replicate r.toNat 0⟩], ⟨hA', hl', ?_, ?_, hb', H.gb, H.gg, H.tb⟩, by simp⟩
      · refine H.mh.put H.ar H.be.size ⟨q, s0, s, k, p, r, a, t, h, gp, gr, List.replicate p.toNat 0, List.replicate r.toNat 0⟩ v' ?_ ?_ ?_ h1 h2 t' hv'
        · simpa using hrow
        · rw [hgp, made_rep]; simp
        · rw [hgr, made_rep]; simp
      · have hput := H.hl.put (ws' := putw ws q n (wrd k p r a t h) s) H.ar s0 (by omega) (by omega) ⟨q, s0, s, k, p, r, a, t, h, gp, gr, List.replicate p.toNat 0, List.replicate r.toNat 0⟩ hq.symm rfl hp0.1 hp0.2.1 (by show x.top s0 + (2 + p + r) ≤ _; omega) (fun y hy => by
            have hy' : y < x.top s0 ∨ x.top s0 + (2 + p + r) ≤ y := hy
            rw [hwp, if_neg (by omega), if_neg (by omega), if_neg (by omega)]) (by rw [hwp, if_neg (by omega), if_pos hq]; exact hhd) (by
            show wat c _ ((q : Int) + 1) = s ∧ kdOf (wat c _ (q : Int)) = k ∧ ptOf (wat c _ (q : Int)) = p ∧ rwOf (wat c _ (q : Int)) = r ∧ agOf (wat c _ (q : Int)) = a ∧ stOf (wat c _ (q : Int)) = t ∧ hdOf (wat c _ (q : Int)) = h
            rw [hwp, hwp, if_pos rfl, if_neg (by omega), if_pos rfl]
            exact ⟨rfl, e1, e2, e3, e4, e5, e6⟩) (by simp [hpt]) (by simp [hrt]) (fun f z hz => by
            have hz' : (List.replicate p.toNat (0 : Int))[f]? = some z := hz
            have hfl0 := (List.getElem?_eq_some_iff.1 hz').1
            rw [List.length_replicate] at hfl0
            have hz0 : z = 0 := by rw [List.getElem?_replicate, if_pos hfl0] at hz'; simpa using hz'.symm
            have hfl : (f : Int) < p := by omega
            have hw := H.ar.words
            show wat c _ ((q : Int) + 2 + f) = z ∧ z < c.words
            rw [hwp, if_neg (by omega), if_neg (by omega), if_pos (by omega), hz0]
            exact ⟨rfl, by omega⟩) (fun f z hz => by
            have hz' : (List.replicate r.toNat (0 : Int))[f]? = some z := hz
            have hfl0 := (List.getElem?_eq_some_iff.1 hz').1
            rw [List.length_replicate] at hfl0
            have hz0 : z = 0 := by rw [List.getElem?_replicate, if_pos hfl0] at hz'; simpa using hz'.symm
            have hfl : (f : Int) < r := by omega
            show wat c _ ((q : Int) + 2 + p + f) = z
            rw [hwp, if_neg (by omega), if_neg (by omega), if_pos (by omega), hz0])
        have ht : x.top s0 + (2 + p + r) = (q : Int) + n := by omega
        rw [← ht]
        exact hput
    · refine (made_no b g c x sw ws lv hlv K S N B C W s k p r a t h w H.ar (fun w1 l => put_full b g c x sw ws S s k p r a t h hf hn w1 (H.ar.below l) (H.la.keep l))).mono ?_
      rintro e w' ⟨rfl, l⟩
      exact ⟨lv, rfl, x, ws, th, H.below l, by omega⟩
  · refine (made_no b g c x sw ws lv hlv K S N B C W s k p r a t h w H.ar (fun w1 l => put_bad b g S s k p r a t h hf w1 (H.la.keep l))).mono ?_
    rintro e w' ⟨rfl, l⟩
    exact ⟨lv, rfl, x, ws, th, H.below l, by omega⟩

theorem Iq.swap (H : Iq W0 w b g c x sw ws lv th) (hA : Ar w' b g c x (!sw) ws) (t : Touch [b] w w') : Iq W0 w' b g c x (!sw) ws lv th := by
  obtain ⟨⟨gs, hg⟩, bs, hb⟩ := H.ar.rowTy
  obtain ⟨hl', hb'⟩ := H.frame t (fun q hq => by simp at hq; rw [hq]; exact H.gb)
  exact ⟨hA, hl', H.mh.touch t (fun q hq hm => by simp at hm; exact (own_ne H.ar H.mh.row).1 (by rw [← hm]; exact hq.symm)) (fun T hT => ⟨by simpa using heap_ty_ne (H.mh.pb T hT).1 hb (by decide), by simpa using heap_ty_ne (H.mh.rb T hT).1 hb (by decide)⟩), H.hl, hb', H.gb, H.gg, H.tb⟩

theorem Iq.fill (H : Iq W0 w b g c x sw ws lv th) (S : Int) (q n : Nat) (hS : 1 ≤ S ∧ S ≤ 4) (hq : x.top S = q) (h0 : 0 < n) (h1 : (q : Int) + n ≤ bhd c S) (hA : Ar w' b g c (x.put S (q + n)) sw (upd (zer ws q n) q ((n : Int) * 4 + 3))) (t : Touch [b, g] w w') : Iq W0 w' b g c (x.put S (q + n)) sw (upd (zer ws q n) q ((n : Int) * 4 + 3)) lv th := by
  obtain ⟨⟨gs, hg⟩, bs, hb⟩ := H.ar.rowTy
  obtain ⟨hl', hb'⟩ := H.frame t (fun q hq => by simp at hq; rcases hq with rfl | rfl; exact H.gb; exact H.gg)
  obtain ⟨s0, rfl⟩ : ∃ s0 : Nat, S = s0 := ⟨S.toNat, by omega⟩
  have hsub := H.ar.sub_in s0
  have hw := H.ar.words
  have hwp : ∀ y, wat c (upd (zer ws q n) q ((n : Int) * 4 + 3)) y = if y = q then (n : Int) * 4 + 3 else if (q : Int) ≤ y ∧ y < q + n then 0 else wat c ws y := fun y => by
    rw [wat_upd c _ q _ y (by omega), wat_zer]
  refine ⟨hA, hl', H.mh.touch t (fun q hq hm => ?_) (fun T hT => ⟨?_, ?_⟩), ?_, hb', H.gb, H.gg, H.tb⟩
  · simp at hm
    rcases hm with rfl | rfl
    · exact (own_ne H.ar H.mh.row).1 hq.symm
    · exact (own_ne H.ar H.mh.row).2 hq.symm
  · simp only [List.mem_cons, List.not_mem_nil, or_false, not_or]
    exact ⟨heap_ty_ne (H.mh.pb T hT).1 hb (by decide), heap_ty_ne (H.mh.pb T hT).1 hg (by decide)⟩
  · simp only [List.mem_cons, List.not_mem_nil, or_false, not_or]
    exact ⟨heap_ty_ne (H.mh.rb T hT).1 hb (by decide), (H.mh.rb T hT).2.2⟩
  · have := H.hl.fill (ws' := upd (zer ws q n) q ((n : Int) * 4 + 3)) H.ar s0 (by omega) (by omega) n (by omega) (by omega) (fun y hy => by rw [hwp, if_neg (by omega), if_neg (by omega)]) (by rw [hq, hwp, if_pos rfl]; unfold IsTag; omega) (by rw [hq, hwp, if_pos rfl]; omega)
    rw [hq] at this
    exact this
end

end Go.Proofs.YtbdkcelggffneaaDoor
