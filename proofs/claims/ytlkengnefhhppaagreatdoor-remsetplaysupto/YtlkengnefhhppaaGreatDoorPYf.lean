import Derived.Test.YtlkengnefhhppaaGreatDoorPHa
import Derived.Shelf.RegionOpen
import Derived.Test.YtlkengnefhhppaaGreatDoorPYe
set_option linter.unusedVariables false
set_option maxHeartbeats 8000000
set_option maxRecDepth 20000
namespace Go.Proofs.YtlkengnefhhppaaGreatDoor
open Go.RowKit Go.Shelf
attribute [local go_sem] Oper.semAt_some
def Kc (W W' : World) : Prop := ∀ (k : Nat) (cs : Array Value) (t : TypeId) (z : Nat × Nat), W.heap[k]? = some (.cells cs t z) → W'.heap[k]? = some (.cells cs t z)
theorem Kc.trans {A B C : World} (h : Kc A B) (k : Kc B C) : Kc A C := fun q cs t z e => k q cs t z (h q cs t z e)
theorem Kc.below {A B : World} (l : Below A.heap.size A B) : Kc A B := fun q cs t z e => (l.block q (Array.getElem?_eq_some_iff.1 e).1).trans e
theorem Kc.put (W : World) (l : Nat) (o o' : Obj) (hl : W.heap[l]? = some o) (ho : o.isCells = false) : Kc W (W.putObj l o') := fun q cs t z e => by
 have : q ≠ l := fun h => by
  subst h
  rw [hl] at e
  simp at e
  subst e
  simp [Obj.isCells] at ho
 rw [World.putObj_heap_other this]
 exact e
theorem cells_of {w : World} {q o : Nat} {v : Value} (h : w.cell? ⟨q, o, none⟩ = some v) : ∃ cs t z, w.heap[q]? = some (.cells cs t z) := by
 unfold World.cell? at h
 split at h
 ·rename_i c t z e
  exact ⟨c, t, z, e⟩
 ·simp at h
theorem Kc.cell {A B : World} (h : Kc A B) {q o : Nat} {v : Value} (e : A.cell? ⟨q, o, none⟩ = some v) : B.cell? ⟨q, o, none⟩ = some v := by
 obtain ⟨cs, t, z, h1⟩ := cells_of e
 exact (World.cell?_of_block (w := A) ((h q cs t z h1).trans h1.symm)).trans e
theorem It.kc {w w' : World} {b g ca cs : Nat} {c : Cfg} {x : Tps} {sw : Bool} {ws : Nat → Int} {S : Int} (h : It w b g ca cs c x sw ws S) (k : Kc w w') : It w' b g ca cs c x sw ws S := by
 obtain ⟨d1, h1, -, -⟩ := h.ar.own
 obtain ⟨d2, h2, -, -⟩ := h.ar.row
 obtain ⟨e1, t1, z1, h3⟩ := cells_of h.laid.b.1
 obtain ⟨e2, t2, z2, h4⟩ := cells_of h.laid.k.1
 exact ⟨h.ar.keep ((k _ _ _ _ h1).trans h1.symm) ((k _ _ _ _ h2).trans h2.symm), h.laid.blocks ((k _ _ _ _ h3).trans h3.symm) ((k _ _ _ _ h4).trans h4.symm), k.cell h.ca, k.cell h.cs⟩
theorem j_ab {α : Type} {B : Nat} {J : List α → World → Prop} (h : AbidesFrom B J) {s : List α} {W W' : World} (hs : J s W) (l : Below W.heap.size W W') : J s W' :=
 h s W W' none hs ⟨l.os, l.tape, l.output, l.size, fun k hk _ => l.block k hk⟩ (fun r e => by cases e)
set_option maxRecDepth 100000 in
theorem walk_stops {α : Type} (f0 : α → Int) (n b g ca cs : Nat) (c : Cfg) (x : Tps) (sw : Bool) (ws : Nat → Int) (S : Int) (l : List α) (p e : Int) (hp : Past c ws (x.top S) (fst c S) p) (hwk : Walk c ws (x.top S) p (l.map f0) e) (w : World) (hI : It w b g ca cs c x sw ws S) :
  SeqStopsK Fence.wide n Tryz.prog 126 #[.pointer (some ⟨ca, 0, none⟩), .pointer (some ⟨cs, 0, none⟩)] (fun y => encO c ws (f0 y)) Kc (fun ys => ys = l) (fun pre => pre <+: l) l.length w := fun lp J Jx W hW hJ hJx hY h0 => by
 have hI' := hI.below hW
 refine callsIn_of_wp Tryz.func126 rfl trivial ?_ rfl
 simp only [Tryz.ntmps126, List.size_toArray, List.length_cons, List.length_nil, Nat.reduceAdd, Nat.reduceSub, Array.replicate_succ, Array.replicate_zero, List.push_toArray, List.append_toArray, List.nil_append, List.cons_append]
 have k1 := hI'.ca
 have k2 := hI'.cs
 have hx := extent_any b g c x sw ws S W hI'.ar
 obtain ⟨s0, s1, s2, s3⟩ := hI'.ar.sub_in S
 have wo := hI'.ar.words
 have HI : Hid (It W b g ca cs c x sw ws S) := hI'
 have HJ : Hid (AbidesFrom W.heap.size J) := hJ
 have HY : Hid (∀ pre x W1, J pre W1 → pre.length < l.length → YieldAt Fence.wide (n - 1) Tryz.prog lp (encO c ws (f0 x)) W1 fun e W' => (e = .returned (.bool true) ∧ J (pre ++ [x]) W' ∧ Kc W1 W') ∨ (e = .returned (.bool false) ∧ Jx (pre ++ [x]) W')) := hY
 clear hI hI' hJ hY hJx hW
 generalize fst c S = f, bhd c S = q, x.top S = top at hx hp hwk s0 s1 s2 s3
 gi_wp2
 refine ⟨trivial, fun h => (by cases h), (callsIn_wide.2 hx).mono ?_⟩
 rintro r w1 ⟨rfl, b1⟩
 have b2 := Below.alloc b1 b1.size (.cells (ecells f q top) 126)
 have hE : Ec (w1.alloc (.cells (ecells f q top) 126)) w1.heap.size f q top := ⟨heap_alloc_new w1 _⟩
 have i2 := HI.out.below b2
 have j2 := j_ab HJ.out h0 b2
 have k1 := i2.ca
 have k2 := i2.cs
 have k3 := hE.c0
 have k4 := hE.c2
 have hpa := past_any b g c x sw ws top f p s0 (by omega) hp _ i2.ar i2.laid
 have HI2 : Hid (It (w1.alloc (.cells (ecells f q top) 126)) b g ca cs c x sw ws S) := i2
 clear i2 hx b1 b2 h0 HI
 gi_wp2
 refine ⟨trivial, fun h => (by cases h), (callsIn_wide.2 hpa).mono ?_⟩
 rintro r w3 ⟨rfl, b3⟩
 have hE3 := hE.below b3
 have j3 := j_ab HJ.out j2 b3
 have p0 := hp.ge
 have i3 := HI2.out.below b3
 clear hpa k1 k2 k3 k4 hE j2 b3 HI2
 generalize w1.heap.size = E at *
 gi_wp2
 gi_loopw [5] (fun v wr => ∃ a pre rest, v = .int .i64 a ∧ 0 ≤ a ∧ l = pre ++ rest ∧ Walk c ws top a (rest.map f0) e ∧ J pre wr ∧ Ec wr E f q top ∧ Hid (It wr b g ca cs c x sw ws S)) (fun v _ => (top - intOf v).toNat)
 case atStart => exact ⟨p, [], l, rfl, by omega, rfl, hwk, j3, hE3, i3⟩
 case round =>
  obtain ⟨a, pre, rest, rfl, ha, hl, hw, hJr, hEc, HIr⟩ := hrel
  have HJr : Hid (J pre wr) := hJr
  have Hw : Hid (Walk c ws top a (rest.map f0) e) := hw
  have Hl : Hid (l = pre ++ rest) := hl
  clear hJr hw hl j3 hE3 i3
  have hr := HIr.out
  have k1 := hr.ca
  have k2 := hr.cs
  have k4 := hEc.c2
  by_cases hat : a < top
  ·by_cases hs : Stands c ws top a
   ·have hbl := below_yes b g c x sw ws top a ha hat (by omega) hs wr hr.ar hr.laid
    obtain ⟨y, l', a', hre, hy0, hpa, hw'⟩ : ∃ y l' a', rest = y :: l' ∧ f0 y = a ∧ Past c ws top (a + osz c ws a) a' ∧ Walk c ws top a' (l'.map f0) e := by
     have h1 := Hw.out
     cases rest with
     | nil =>
      rcases h1 with ⟨h⟩ | ⟨_, h⟩
      ·omega
      ·exact absurd hs h
     | cons y l' =>
      generalize hm : (y :: l').map f0 = m at h1
      rcases h1 with ⟨h⟩ | ⟨_, h⟩ | ⟨_, _, h3, h4⟩
      ·omega
      ·exact absurd hs h
      ·simp at hm
       obtain ⟨e1, e2⟩ := hm
       subst e2
       exact ⟨y, l', _, rfl, e1, h3, h4⟩
    have Hw' : Hid (Walk c ws top a' (l'.map f0) e) := hw'
    clear hw' Hw
    have Hre : Hid (rest = y :: l') := hre
    have Hy0 : Hid (f0 y = a) := hy0
    have hlen : pre.length < l.length := by rw [Hl.out, hre]; simp
    clear hre
    have hz := osz_in c ws a
    have hzl := hs.2
    obtain ⟨n', hn⟩ : ∃ n' : Nat, osz c ws a = n' := Int.eq_ofNat_of_zero_le (by omega)
    have hpg := hpa.ge
    have hyi : ∀ W1, J pre W1 → _ := fun W1 hW1 => HY.out pre y W1 hW1 hlen
    have hpas : ∀ W1, It W1 b g ca cs c x sw ws S → _ := fun W1 hW1 => past_any b g c x sw ws top (a + osz c ws a) a' (by omega) (by omega) hpa W1 hW1.ar hW1.laid
    simp only [obv, hn, Int.toNat_natCast] at hbl
    simp only [encO, hdv, hy0] at hyi
    rw [hn] at hz hzl hpg hpas
    clear hs hn hpa hy0 hlen
    generalize wat c ws (a + 1) = sr, kdOf (wat c ws a) = K, ptOf (wat c ws a) = P, rwOf (wat c ws a) = R, agOf (wat c ws a) = A, stOf (wat c ws a) = T, hdOf (wat c ws a) = H at hbl hyi
    have Hyi : Hid (∀ W1, J pre W1 → YieldAt Fence.wide (n - 1) Tryz.prog lp #[.int .i64 a, hv sr K P R A T H] W1 fun e W' => (e = .returned (.bool true) ∧ J (pre ++ [y]) W' ∧ Kc W1 W') ∨ (e = .returned (.bool false) ∧ Jx (pre ++ [y]) W')) := hyi
    have Hpas : Hid (∀ W1, It W1 b g ca cs c x sw ws S → Calls Tryz.prog 128 #[.pointer (some ⟨b, 0, none⟩), .int .i64 top, .int .i64 (a + n')] W1 fun r w' => r = .returned (.int .i64 a') ∧ Below W1.heap.size W1 w') := hpas
    clear hyi hpas hr
    gi_wp2
    refine ⟨trivial, fun h => (by cases h), (callsIn_wide.2 hbl).mono ?_⟩
    rintro r w4 ⟨rfl, b5⟩
    have b6 := Below.alloc b5 b5.size (.cells (ocells sr K P R A T H (.slice (some ⟨g, a.toNat, none⟩) n' n')) 104)
    have o6 := Oc.new w4 (ocells sr K P R A T H (.slice (some ⟨g, a.toNat, none⟩) n' n'))
    have hEc6 := hEc.below b6
    have j6 := j_ab HJ.out HJr.out b6
    have HI6 : Hid (It (w4.alloc (.cells (ocells sr K P R A T H (.slice (some ⟨g, a.toNat, none⟩) n' n')) 104)) b g ca cs c x sw ws S) := HIr.out.below b6
    obtain ⟨fn, tmps, assign, body, hy, hR⟩ := Hyi.out _ j6
    have z0 := o6.cell 0
    have z1 := o6.cell 1
    have z2 := o6.cell 2
    have z3 := o6.cell 3
    have z4 := o6.cell 4
    have z5 := o6.cell 5
    have z6 := o6.cell 6
    clear hbl k1 k2 k4 HJr j6 b5 b6 HIr
    gi_wp2
    refine ⟨fun h => (by cases h), hR.mono ?_⟩
    rintro e' w6 (⟨rfl, hJ7, hk7⟩ | ⟨rfl, hJ7⟩)
    ·have hE7 : Ec w6 E f q top := ⟨hk7 _ _ _ _ hEc6.at_⟩
     have o7 : Oc w6 w4.heap.size (ocells sr K P R A T H (.slice (some ⟨g, a.toNat, none⟩) n' n')) := ⟨hk7 _ _ _ _ o6.at_⟩
     have r7 := HI6.out.kc hk7
     have k1 := r7.ca
     have k4 := hE7.c2
     have z7 : w6.cell? ⟨w4.heap.size, 7, none⟩ = some (.slice (some ⟨g, a.toNat, none⟩) n' n') := o7.cell 7
     have hpc := Hpas.out w6 r7
     have HJ7 : Hid (J (pre ++ [y]) w6) := hJ7
     have HI7 : Hid (It w6 b g ca cs c x sw ws S) := r7
     clear r7 o7 hk7 hEc6 o6 hy hR z0 z1 z2 z3 z4 z5 z6 hJ7 HI6
     gi_wp2
     refine ⟨trivial, fun h => (by cases h), (callsIn_wide.2 hpc).mono ?_⟩
     rintro r w7 ⟨rfl, b8⟩
     have hE8 := hE7.below b8
     have HJ8 : Hid (J (pre ++ [y]) w7) := j_ab HJ.out HJ7.out b8
     have HI8 : Hid (It w7 b g ca cs c x sw ws S) := HI7.out.below b8
     clear hpc k1 k4 z7 b8 hE7 HJ7 HI7
     gi_wp2
     go_roundw
     case rel => exact ⟨a', pre ++ [y], l', rfl, by omega, by rw [Hl.out, Hre.out]; simp, Hw'.out, HJ8.out, hE8, HI8⟩
     case measure => simp [intOf]; omega
    ·have HJ7 : Hid (Jx (pre ++ [y]) w6) := hJ7
     clear hy hR z0 z1 z2 z3 z4 z5 z6 hJ7 hEc6 o6 HI6
     gi_wp2
     refine bodyPost_ret (results_none rfl _ _ _) rfl ?_
     exact ⟨⟨_, rfl⟩, .inr ⟨_, ⟨l', by rw [Hl.out, Hre.out]; simp⟩, HJ7.out⟩⟩
   ·have hbl := below_no b g c x sw ws top a ha hat (by omega) hs wr hr.ar hr.laid
    have hre : rest = [] := by
     have h1 := Hw.out
     cases rest with
     | nil => rfl
     | cons y l' =>
      generalize hm : (y :: l').map f0 = m at h1
      rcases h1 with _ | _ | ⟨_, h2, _, _⟩
      ·simp at hm
      ·simp at hm
      ·exact absurd h2 hs
    clear hr
    gi_wp2
    refine ⟨trivial, fun h => (by cases h), (callsIn_wide.2 hbl).mono ?_⟩
    rintro r w4 ⟨rfl, b5⟩
    have j6 := j_ab HJ.out HJr.out (Below.alloc b5 b5.size (.cells ozero 104))
    clear hbl
    gi_wp2
    refine ⟨fun f h => (by cases h), ?_⟩
    gi_wp2
    go_returns
    have hl := Hl.out
    rw [hre, List.append_nil] at hl
    exact ⟨⟨_, rfl⟩, .inl ⟨_, hl.symm, j6⟩⟩
  ·have hre : rest = [] := by
    have h1 := Hw.out
    cases rest with
    | nil => rfl
    | cons y l' =>
     generalize hm : (y :: l').map f0 = m at h1
     rcases h1 with _ | _ | ⟨h2, _, _, _⟩
     ·simp at hm
     ·simp at hm
     ·exact absurd h2 hat
   clear hr
   gi_wp2
   go_end0
   have hl := Hl.out
   rw [hre, List.append_nil] at hl
   exact ⟨⟨_, rfl⟩, .inl (by rw [hl]; exact HJr.out)⟩
end Go.Proofs.YtlkengnefhhppaaGreatDoor
namespace Go.Proofs.YtlkengnefhhppaaGreatDoor
open Go.RowKit Go.Shelf
attribute [local go_sem] Oper.semAt_some
theorem ownsRow_succ {w : World} {base n e s : Nat} {v : Value} {xs : List Value} (h : w.ownsRow base e s v (n + 1) xs) : ∃ g cap, v = .slice (some ⟨g, 0, none⟩) (n + 1) cap := by
 rcases h.2 with ⟨_, h0⟩ | ⟨g, cap, cur, rfl, _⟩
 ·omega
 ·exact ⟨g, cap, rfl⟩
def Copying {α : Type} (w : World) (tb te : Nat) (enc : α → Value) (S : Nat → Prop) (pre : List α) (W : World) : Prop :=
 ∃ v, Boxed W w.heap.size tb v ∧ W.ownsRow w.heap.size te 1 v pre.length (pre.map enc) ∧ ¬ S w.heap.size ∧ (∀ g, v.ownBlock = some g → ¬ S g) ∧ (∀ k, S k → k < W.heap.size) ∧ Below w.heap.size w W
theorem copying_own {α : Type} (w : World) (tb te : Nat) (enc : α → Value) (B : Nat) (hB : w.heap.size ≤ B) : OwnS B (Copying w tb te enc) := by
 rintro S s X Y row ⟨v, hb, hr, h1, h2, h3, h4⟩ hg hrow
 have hbr : some w.heap.size ≠ row := fun e => by
  obtain ⟨_, o, ho, hc⟩ := hrow _ e.symm
  rw [show X.heap[w.heap.size]? = _ from hb] at ho; cases ho; cases hc
 have hvr : v.ownBlock = none ∨ v.ownBlock ≠ row := by
  rcases hr.2 with ⟨rfl, _⟩ | ⟨g, cap, cur, rfl, _, hgb, _⟩
  ·exact .inl rfl
  ·refine .inr fun e' => ?_
   obtain ⟨_, o, ho, hc⟩ := hrow g (by simpa [Value.ownBlock] using e'.symm)
   rw [hgb] at ho; cases ho; cases hc
 refine ⟨v, hb.kept hg hbr, hr.kept hg hvr, ?_, ?_, ?_, ?_⟩
 ·rintro (h | h)
  ·exact h1 h
  ·have := hb.lt; omega
 ·rintro g e (h | h)
  ·exact h2 g e h
  ·have := (hr.lt g e).2; omega
 ·rintro k (h | h)
  ·have := h3 k h; have := hg.size; omega
  ·exact h.2
 ·exact h4.grown hg h4.size (fun k e => by have := (hrow k e).1; omega)
theorem copying_step {α : Type} {w W w1 : World} {tb te : Nat} {enc : α → Value} {S : Nat → Prop} {pre : List α} {x : α} {v v' : Value} {tmp : Obj} {a : Act} (hte : tb ≠ te) (hv : Boxed W w.heap.size tb v) (hrow : W.ownsRow w.heap.size te 1 v pre.length (pre.map enc))
  (h1 : ¬ S w.heap.size) (h2 : ∀ g, v.ownBlock = some g → ¬ S g) (h3 : ∀ k, S k → k < W.heap.size) (hB : Below w.heap.size w W)
  (hown : w1.ownsRow w.heap.size te 1 v' (pre.length + 1) (pre.map enc ++ [enc x])) (hgrow : (W.alloc tmp).grownBy w1 v.ownBlock) (hat : v'.ownBlock = v.ownBlock ∨ v'.ownBlock = some (W.alloc tmp).heap.size) :
  goesOn w.heap.size (Copying w tb te enc) S (pre ++ [x]) W .normal a (w1.setCell ⟨w.heap.size, 0, none⟩ v') := by
 obtain ⟨hv1, hv2, hr2, hk2, hb2⟩ := hv.appended hte hrow hB.size (Nat.le_refl _) hown hgrow
 refine ⟨fun k hk => ?_, hb2, v', hv2, by simpa using hr2, h1, fun g hg => ?_, fun k hk => ?_, hB.trans hb2⟩
 ·have hkl := h3 k hk
  rw [Below.heap_setCell _ _ _ _ (fun e => h1 (by simp at e; rw [← e]; exact hk)), hgrow.block k (by simp; omega) (fun e => h2 k e.symm hk), Below.heap_alloc _ _ _ hkl]
 ·rcases hat with e | e
  ·exact h2 g (e ▸ hg)
  ·rw [e] at hg; cases hg
   intro hS; have := h3 _ hS; simp at this; omega
 ·exact Nat.lt_of_lt_of_le (h3 k hk) hb2.size
def tens (th : List Tng) : List Int := (th.filter (inS 4)).map (·.at_)
theorem It.new6 {w : World} {b g : Nat} {c : Cfg} {x : Tps} {sw : Bool} {ws : Nat → Int} (h : Ar w b g c x sw ws) (hL : Laid w) (S : Int) : It ((w.alloc (.cells #[.pointer (some ⟨b, 0, none⟩)] 44)).alloc (.cells #[.int .i64 S] 3)) b g w.heap.size (w.heap.size + 1) c x sw ws S := by
 have l : Below w.heap.size w ((w.alloc (.cells #[.pointer (some ⟨b, 0, none⟩)] 44)).alloc (.cells #[.int .i64 S] 3)) := Below.alloc (Below.alloc (Below.refl _ _) (Nat.le_refl _) _) (by simp) _
 refine ⟨h.below l, hL.keep l, ?_, ?_⟩
 ·exact cell_of_row _ _ 0 _ _ _ ((Below.heap_alloc _ _ _ (by simp)).trans (heap_alloc_new w (.cells #[.pointer (some ⟨b, 0, none⟩)] 44 (0, 0))))
 ·have := heap_alloc_new (w.alloc (.cells #[.pointer (some ⟨b, 0, none⟩)] 44)) (.cells #[.int .i64 S] 3 (0, 0))
  simp only [World.size_alloc] at this
  exact cell_of_row _ _ 0 _ _ _ this
theorem objects1_enters6 : ∀ args w, (callFunc 126 args).run Tryz.prog w = .ok (.enter 126 args) w := enters_of Tryz.func126 (by kernel_rfl) rfl
theorem clear_run {w : World} {mb n : Nat} {S : Int → Bool} (h : Ms w mb n S) : ∃ w', (∀ ty, (Builtin.clear_ #[99] ty #[.map (some mb)]).run Tryz.prog w = .ok (.tuple #[]) w') ∧ Ms w' mb 0 (fun _ => false) ∧ Touch [mb] w w' := by
 obtain ⟨es, cl, hb⟩ := h.is
 refine ⟨ChangeMaps.setBlock w mb (.map #[] cl), fun ty => ?_, ⟨.map [], ⟨#[], cl, ?_, ⟨by simp, MapKept.stamped_empty cl, by simp⟩, Nat.le_refl _, rfl⟩, fun a _ => by simp [Maps.has]⟩, ⟨rfl, rfl, rfl, by simp [ChangeMaps.setBlock], fun k hk hn => ?_⟩⟩
 ·simp [Builtin.clear_, run_underlying Tryz.underlying99, MapKept.run_getObj_map hb, MapKept.run_setObj_map _ hb, Result.andThen, ChangeMaps.setBlock]
 ·simp [ChangeMaps.setBlock, (Array.getElem?_eq_some_iff.1 hb).1]
 ·simp at hn
  simp [ChangeMaps.setBlock, Array.getElem?_setIfInBounds]
  intro e
  exact absurd e.symm hn
section
variable {w1 w w' : World} {n1 sb b g mb n : Nat} {lv : Value} {c : Cfg} {x : Tps} {sw : Bool} {ws : Nat → Int} {th : List Tng} {l : List Int} {S : Int → Bool}
theorem clear_rm (H : Rm w1 n1 w sb b g mb lv c x sw ws th l n S) (hm : Ms w' mb 0 (fun _ => false)) (t : Touch [mb] w w') : Rm w1 n1 w' sb b g mb lv c x sw ws th l 0 (fun _ => false) := by
 have hmne : sb ≠ mb := fun e => H.rs.map.ne H.rs.own e
 refine H.set t (fun q hq => .inr (.inl (by simpa using hq))) ⟨?_, ?_, hm⟩ H.lv_
 ·rw [t.block sb H.rs.lt (by simpa using hmne)]
  exact H.rs.own
 ·refine row_keep H.rs.row (fun q hq => t.block q (row_lt H.rs.row q hq) ?_)
  simp
  intro e
  subst e
  rcases H.rs.row.2 with ⟨e, _⟩ | ⟨y, cp, cur, e, _, hy, _⟩
  ·rw [e] at hq; simp [Value.ownBlock] at hq
  ·rw [e] at hq
   simp [Value.ownBlock] at hq
   subst hq
   exact H.rs.map.ne hy rfl
theorem Rm.putObj {D : Nat} {o' : Obj} {N : Nat} (H : Rm w1 n1 w sb b g mb lv c x sw ws th l n S) (hD : w.heap[D]? = some (.deferred (some []))) (ho : o' = .deferred none) (hN : w1.heap.size ≤ N) (hD2 : N ≤ D) : Rm w1 n1 (w.putObj D o') sb b g mb lv c x sw ws th l n S := by
 have hother : ∀ k, k ≠ D → (w.putObj D o').heap[k]? = w.heap[k]? := fun k hk => World.putObj_heap_other hk
 have nc : ∀ k cs t, w.heap[k]? = some (.cells cs t (0, 0)) → k ≠ D := fun k cs t hk e => by
  subst e
  rw [hk] at hD
  simp at hD
 have t : Touch [D] w (w.putObj D o') := ⟨rfl, rfl, rfl, by simp, fun k hk hn => hother k (by simpa using hn)⟩
 obtain ⟨⟨gs, hgs⟩, bs, hbs⟩ := H.bq.ax.ar.rowTy
 have hn := H.hn
 have hb := H.bq.be.size
 have t0 := H.bq.t0
 have t1 := H.bq.t1
 refine ⟨⟨H.bq.ax.touch t (by simp; exact nc _ _ _ hbs) (by simp; exact nc _ _ _ hgs) (by simp; omega) (by simp; omega), H.bq.be.trans (t.below (by omega) (fun k hk => by simp at hk; omega)), H.bq.lb, H.bq.lg, H.bq.t0, H.bq.t1⟩, H.rs.touch t (by simp; exact nc _ _ _ H.rs.own) (fun hm => ?_) (fun q hq hm => ?_), H.ls, H.lm, H.lv_, H.hn⟩
 ·simp at hm
  obtain ⟨es, cl, h6⟩ := H.rs.map.is
  rw [hm, hD] at h6
  simp at h6
 ·simp at hm
  subst hm
  rcases H.rs.row.2 with ⟨e, _⟩ | ⟨y, cp, cur, e, _, hy, _⟩
  ·rw [e] at hq; simp [Value.ownBlock] at hq
  ·rw [e] at hq
   simp [Value.ownBlock] at hq
   subst hq
   exact nc _ _ _ hy rfl
end
end Go.Proofs.YtlkengnefhhppaaGreatDoor
