import Derived.Test.YtlkengnefhhppaaGreatDoorPYb
import Derived.Lib.AppendZerosOnto
import Derived.Deep.Upon
set_option linter.unusedVariables false
set_option maxHeartbeats 8000000
set_option maxRecDepth 20000
namespace Go.Proofs.YtlkengnefhhppaaGreatDoor
open Go.RowKit Go.Shelf
def ded1 (acc : List Int) (x : Int) : List Int := if x ∈ acc then acc else acc ++ [x]
def ded (xs : List Int) : List Int := xs.foldl ded1 []
theorem ded_snoc (xs : List Int) (x : Int) : ded (xs ++ [x]) = ded1 (ded xs) x := by simp [ded]
theorem snoc_ind {P : List Int → Prop} (h0 : P []) (h1 : ∀ xs x, P xs → P (xs ++ [x])) : ∀ xs, P xs := fun xs => by
 have key : ∀ ys : List Int, P ys.reverse := fun ys => by
  induction ys with
  | nil => exact h0
  | cons y ys ih => rw [List.reverse_cons]; exact h1 _ _ ih
 have := key xs.reverse
 rwa [List.reverse_reverse] at this
theorem mem_ded (xs : List Int) : ∀ y, y ∈ ded xs ↔ y ∈ xs := by
 intro y
 revert xs
 refine snoc_ind (by simp [ded]) (fun xs x ih => ?_)
 ·rw [ded_snoc]
  unfold ded1
  by_cases h : x ∈ ded xs
  ·rw [if_pos h]
   constructor
   ·intro h1; simp [ih.1 h1]
   ·intro h1
    simp at h1
    rcases h1 with h1 | rfl
    ·exact ih.2 h1
    ·exact h
  ·rw [if_neg h]
   simp [ih]
theorem ded_len (xs : List Int) : (ded xs).length ≤ xs.length := by
 revert xs
 refine snoc_ind (by simp [ded]) (fun xs x ih => ?_)
 ·rw [ded_snoc]
  unfold ded1
  split
  ·simp; omega
  ·simp; omega
theorem once_any (nv : Value) (ns : List Int) (w : World) (hrd : Lrd w.heap.size w nv .i64 ns) (hin : ∀ a, a ∈ ns → InI a) (hl : ns.length ≤ 4294967296) :
  Calls Tryz.prog 116 #[nv] w fun e w' => ∃ v, e = .returned v ∧ w'.ownsRow 0 3 1 v (ded ns).length (ints (ded ns)) ∧ Below w.heap.size w w' := by
 have hmm := @run_makeMap Tryz.prog
 obtain ⟨av, cap, rfl, hcap, hc⟩ := hrd
 obtain ⟨i0, hi0, hz0, hz1, hz2⟩ := info_parts Tryz.infoInt
 have HI : Hid (Tryz.prog.info? 3 = some i0 ∧ i0.zero = some (.int .i64 0) ∧ i0.size = 1 ∧ i0.bytes = 8) := ⟨hi0, hz0, hz1, hz2⟩
 have Hc : Hid (∀ (f : Nat) z, ns[f]? = some z → ∃ q off, av = some ⟨q, off, none⟩ ∧ q < w.heap.size ∧ w.cell? ⟨q, off + f, none⟩ = some (.int .i64 z)) := hc
 have Hin : Hid (∀ a, a ∈ ns → InI a) := hin
 have m0 := Ms.made w
 have b0 : Below w.heap.size w (w.alloc (.map #[] 0)) := Below.alloc (Below.refl _ _) (Nat.le_refl _) _
 clear hi0 hz0 hz1 hz2 hc hin
 go_enter Tryz.func116, Tryz.ntmps116
 go_upto_region 2 with fail
 have Hm0 : Hid (Ms (w.alloc (.map #[] 0)) w.heap.size 0 (fun _ => false)) := m0
 have Hb0 : Hid (Below w.heap.size w (w.alloc (.map #[] 0))) := b0
 obtain ⟨M, hM⟩ : ∃ M, M = w.heap.size := ⟨_, rfl⟩
 have HM : Hid (M = w.heap.size) := hM
 rw [← hM] at Hm0 ⊢
 generalize w.alloc (.map #[] 0) = w0 at *
 clear m0 b0 hM hmm
 go_wp2
 go_loopw [4, 12] (fun v4 v12 wr => ∃ k : Nat, k ≤ ns.length ∧ v12 = .int .i64 k ∧ Hid (wr.ownsRow 0 3 1 v4 (ded (ns.take k)).length (ints (ded (ns.take k)))) ∧ Hid (Ms wr M k (fun y => decide (y ∈ ded (ns.take k)))) ∧ Hid (Below w.heap.size w wr) ∧ Hid (∀ y, v4.ownBlock = some y → w.heap.size ≤ y)) (fun _ v12 _ => ns.length - (intOf v12).toNat)
 case atStart => exact ⟨0, Nat.zero_le _, rfl, World.ownsRow_nil _ _ _ _, Hm0.out.congr (fun a _ => by simp [ded]), Hb0, (fun y hy => by simp [Value.ownBlock] at hy : ∀ y, (Value.slice none 0 0).ownBlock = some y → w.heap.size ≤ y)⟩
 case round =>
  obtain ⟨k, hk, rfl, Hrow, Hms, Hbe, Hfr⟩ := hrel
  clear Hm0 Hb0
  by_cases hkl : k < ns.length
  ·have hak : ns[k]? = some (ns[k]'hkl) := List.getElem?_eq_getElem hkl
   generalize ns[k]'hkl = a at hak
   obtain ⟨q, off, rfl, hq, ca⟩ := Hc.out k a hak
   have ca' : wr.cell? ⟨q, off + k, none⟩ = some (.int .i64 a) := (Hbe.out.cell hq).trans ca
   have Ha : Hid (InI a) := Hin.out a (List.mem_of_getElem? hak)
   have Htk : Hid (ded (ns.take (k + 1)) = ded1 (ded (ns.take k)) a) := by
    show _ = _
    rw [List.take_add_one, hak]
    exact ded_snoc _ _
   have hkey := key_of Ha.out
   obtain ⟨D, hown, hS⟩ := Hms.out
   have hSa : Maps.has D (.int .i64 a) = decide (a ∈ ded (ns.take k)) := hS a Ha.out
   have HS : Hid (∀ a, InI a → Maps.has D (.int .i64 a) = decide (a ∈ ded (ns.take k))) := hS
   clear hS
   have hkI : (k : Int) < (ns.length : Int) := by omega
   have Hdl : Hid ((ded (ns.take k)).length ≤ k) := by
    have := ded_len (ns.take k)
    simp at this
    show _ ≤ _
    omega
   clear ca hak hq
   by_cases hm : a ∈ ded (ns.take k)
   ·rw [decide_eq_true hm] at hSa
    have Hnx : Hid (ded (ns.take (k + 1)) = ded (ns.take k)) := by
     show _ = _
     rw [Htk.out]
     unfold ded1
     rw [if_pos hm]
    have b1 : Below wr.heap.size wr (wr.alloc (.cells #[] 148)) := Below.alloc (Below.refl _ _) (Nat.le_refl _) _
    obtain ⟨a4, n4, c4, rfl⟩ := row_slice Hrow.out
    have Hres : Hid (∀ w2, Below wr.heap.size wr w2 → w2.ownsRow 0 3 1 (.slice a4 n4 c4) (ded (ns.take (k + 1))).length (ints (ded (ns.take (k + 1)))) ∧ Ms w2 M (k + 1) (fun y => decide (y ∈ ded (ns.take (k + 1)))) ∧ Below w.heap.size w w2) := fun w2 l2 => by
     rw [Hnx.out]
     exact ⟨row_keep Hrow.out (fun y hy => l2.block y (row_lt Hrow.out y hy)), (Hms.out.below l2).mono (by omega), Hbe.out.trans (l2.mono Hbe.out.size)⟩
    clear hm
    go_wp2_with (first
     | (at_lookup; refine wpList_lookup_own_unit _ rfl _ _ 99 rfl 3 148 Tryz.keyed Tryz.underlying99 (Tryz.zeroU _) M k D rfl hown _ _ rfl hkey ?_; rw [hSa])
     | go_in)
    go_roundw
    case rel =>
     obtain ⟨r1, r2, r3⟩ := Hres.out _ b1
     exact ⟨k + 1, by omega, by go_num, r1, r2, r3, Hfr⟩
    case measure => simp [intOf]; omega
   ·rw [decide_eq_false hm] at hSa
    have Hnx : Hid (ded (ns.take (k + 1)) = ded (ns.take k) ++ [a]) := by
     show _ = _
     rw [Htk.out]
     unfold ded1
     rw [if_neg hm]
    have b1 : Below wr.heap.size wr (wr.alloc (.cells #[] 148)) := Below.alloc (Below.refl _ _) (Nat.le_refl _) _
    obtain ⟨a4, n4, c4, rfl⟩ := row_slice Hrow.out
    have Hrow1 : Hid ((wr.alloc (.cells #[] 148)).ownsRow 0 3 1 (.slice a4 n4 c4) (ded (ns.take k)).length (ints (ded (ns.take k)))) := row_keep Hrow.out (fun y hy => b1.block y (row_lt Hrow.out y hy))
    have hown1 := hown.alloc (.cells #[] 148)
    have Hbe1 : Hid (Below w.heap.size w (wr.alloc (.cells #[] 148))) := Hbe.out.trans (b1.mono Hbe.out.size)
    have HmM : Hid (M < wr.heap.size) := Hms.out.lt
    clear hm
    go_upto_region 8 with (at_lookup; refine wpList_lookup_own_unit _ rfl _ _ 99 rfl 3 148 Tryz.keyed Tryz.underlying99 (Tryz.zeroU _) M k D rfl hown _ _ rfl hkey ?_; rw [hSa])
    clear hown Hrow Hbe Hms b1 ca'
    generalize wr.alloc (.cells #[] 148) = w1 at *
    go_upto_region 9 with (at_mapUpdate; refine wpList_mapUpdate_in _ rfl _ _ _ 99 rfl 3 148 Tryz.keyed Tryz.underlying99 unitElem M k D rfl hown1 (by unfold maxLen; omega) _ _ _ rfl rfl hkey (.agg []) [] unitElem_mk ?_; intro w2 hown2 hturn2)
    have t2 := turned_touch hturn2
    have Hms2 : Hid (Ms w2 M (k + 1) (fun y => decide (y ∈ ded (ns.take (k + 1))))) := (Ms.put Ha.out hown1 HS.out hown2).congr (fun y _ => by
     rw [Hnx.out]
     by_cases e : y = a
     ·subst e; simp
     ·simp [e])
    have hneM : ∀ y, (Value.slice a4 n4 c4).ownBlock = some y → y ≠ M := fun y hy e => by
     subst e
     rcases Hrow1.out.2 with ⟨e, _⟩ | ⟨z, cp, cur, e, _, hz, _⟩
     ·rw [e] at hy; simp [Value.ownBlock] at hy
     ·rw [e] at hy
      simp [Value.ownBlock] at hy
      subst hy
      obtain ⟨es, cl, h1, -⟩ := hown1
      rw [h1] at hz
      simp at hz
    have Hrow2 : Hid (w2.ownsRow 0 3 1 (.slice a4 n4 c4) (ded (ns.take k)).length (ints (ded (ns.take k)))) := row_keep Hrow1.out (fun y hy => t2.block y (row_lt Hrow1.out y hy) (by simpa using hneM y hy))
    have Hbe2 : Hid (Below w.heap.size w w2) := Hbe1.out.trans (t2.below Hbe1.out.size (fun y hy => by simp at hy; have := HM.out; omega))
    clear t2 hown1 hown2 hturn2 hneM Hrow1 Hbe1 HS hSa
    go_wp2_with (at_builtin; refine wpList_append_own_at _ rfl _ _ 32 rfl 0 3 i0 (.int .i64 0) 1 8 Tryz.underlying32 HI.out.1 HI.out.2.1 HI.out.2.2.1 HI.out.2.2.2 rfl (by decide) _ _ _ rfl (Hrow2.out.alloc _) ⟨w2.heap.size, 0, none⟩ 1 1 [.int .i64 a] rfl rfl (cell_one_new _ _ _) (by simp [Value.oneCell']) (by have := Hdl.out; simp [maxLen]; omega) (by have := Hdl.out; omega) (by omega) ?_; intro v' w3 hown' hgrow _ hat)
    have t3 : Touch (Value.slice a4 n4 c4).ownBlock.toList w2 w3 := ⟨hgrow.os, hgrow.tape, hgrow.output, by have := hgrow.size; simp at this; omega, fun k hk hn => (hgrow.block k (by simp; omega) (fun e => hn (by rw [Option.mem_toList]; exact e.symm))).trans (Below.heap_alloc _ _ _ hk)⟩
    have Hrow3 : Hid (w3.ownsRow 0 3 1 v' (ded (ns.take (k + 1))).length (ints (ded (ns.take (k + 1))))) := by
     show w3.ownsRow 0 3 1 v' (ded (ns.take (k + 1))).length (ints (ded (ns.take (k + 1))))
     rw [Hnx.out]
     simpa [ints] using hown'
    have Hms3 : Hid (Ms w3 M (k + 1) (fun y => decide (y ∈ ded (ns.take (k + 1))))) := Hms2.out.keep (t3.block M Hms2.out.lt (fun hm => by
     rw [Option.mem_toList] at hm
     rcases Hrow2.out.2 with ⟨e, _⟩ | ⟨z, cp, cur, e, _, hz, _⟩
     ·rw [e] at hm; simp [Value.ownBlock] at hm
     ·rw [e] at hm
      simp [Value.ownBlock] at hm
      subst hm
      exact Hms2.out.ne hz rfl))
    have Hbe3 : Hid (Below w.heap.size w w3) := Hbe2.out.trans (t3.below Hbe2.out.size (fun y hy => by rw [Option.mem_toList] at hy; exact Hfr.out y hy))
    have Hfr3 : Hid (∀ y, v'.ownBlock = some y → w.heap.size ≤ y) := fun y hy => by
     rcases hat with h | h
     ·exact Hfr.out y (h.symm.trans hy)
     ·rw [h] at hy
      have := Hbe2.out.size
      simp at hy
      omega
    obtain ⟨a5, n5, c5, hv5⟩ := row_slice hown'
    subst hv5
    clear hown' hgrow hat t3 Hms2 Hrow2 Hbe2 Hfr
    go_roundw
    case rel => exact ⟨k + 1, by omega, by go_num, Hrow3, Hms3, Hbe3, Hfr3⟩
    case measure => simp [intOf]; omega
  ·have hke : k = ns.length := by omega
   have Hr : Hid (wr.ownsRow 0 3 1 u4 (ded ns).length (ints (ded ns))) := by
    have := Hrow.out
    rw [hke, List.take_length] at this
    exact this
   have hkn : ¬ (k : Int) < (ns.length : Int) := by omega
   clear Hrow
   go_wp2
   go_ret
   exact ⟨_, rfl, Hr.out, Hbe.out⟩
theorem own_sl {w : World} {base n e size : Nat} {v : Value} {xs : List Value} (h : w.ownsRow base e size v n xs) : ∃ a cap, v = .slice a n cap := by
 rcases h.2 with ⟨rfl, rfl⟩ | ⟨g, cap, cur, rfl, _⟩
 ·exact ⟨_, _, rfl⟩
 ·exact ⟨_, _, rfl⟩
set_option maxRecDepth 20000 in
theorem clone_own (base n : Nat) (v : Value) (xs : List Int) (w : World) (hr : w.ownsRow base 3 1 v n (ints xs)) (hn : n < 8796093022208) :
  Calls Tryz.prog 53 #[v] w fun e w' => ∃ v', e = .returned v' ∧ w'.ownsRow w.heap.size 3 1 v' n (ints xs) ∧ Below w.heap.size w w' := by
 obtain ⟨i0, hi0, hz0, hz1, hz2⟩ := info_parts Tryz.infoInt
 have hl := hr.1
 rcases hr.2 with ⟨rfl, rfl⟩ | ⟨g, cap, cur, rfl, -⟩
 ·have hx : ints xs = [] := List.eq_nil_of_length_eq_zero (by simpa using hl)
  rw [hx]
  have hnil : ∀ w, (binOp .eql 32 (.slice none 0 0) (.slice none 0 0)).run Tryz.prog w = .ok (.bool true) w := fun w => by first | rfl | kernel_rfl | (simp [binOp, go_sem]; done)
  clear hr hl hx hi0 hz0 hz1 hz2
  go_enter Tryz.func53, Tryz.ntmps53
  go_wp2
  go_ret
  exact ⟨_, rfl, World.ownsRow_nil _ _ _ _, Below.refl _ _⟩
 ·have hnil : ∀ w, (binOp .eql 32 (.slice (some ⟨g, 0, none⟩) n cap) (.slice none 0 0)).run Tryz.prog w = .ok (.bool false) w := fun w => by first | rfl | kernel_rfl | (simp [binOp, go_sem]; done)
  have HN : Hid (∀ j u, (ints xs)[j]? = some u → (w.alloc (.cells #[] 3)).cell? ((⟨g, 0, none⟩ : Addr).add j) = some u) := (hr.alloc (.cells #[] 3)).cells (g := g) rfl
  have HO : Hid (∀ u ∈ ints xs, u.oneCell' = true) := fun u hu => by
   obtain ⟨i, -, rfl⟩ := List.mem_map.1 hu; rfl
  have HL : Hid ((ints xs).length = n * 1) := hl
  have HH : Hid ((Tryz.prog.info? 3 = some i0) ∧ i0.zero = some (.int .i64 0) ∧ i0.size = 1 ∧ i0.bytes = 8) := ⟨hi0, hz0, hz1, hz2⟩
  have HW : Hid ((w.alloc (.cells #[] 3)).ownsRow w.heap.size 3 1 (.slice (some ⟨w.heap.size, 0, none⟩) 0 0) 0 []) :=
   ⟨rfl, .inr ⟨w.heap.size, 0, #[], rfl, Nat.le_refl _, heap_alloc_new w _, Nat.le_refl _, by decide, rfl, rfl⟩⟩
  have hb1 : Below w.heap.size w (w.alloc (.cells #[] 3)) := Below.alloc (Below.refl _ _) (Nat.le_refl _) _
  have Hn : Hid (n < 8796093022208) := hn
  clear hr hi0 hz0 hz1 hz2 hl hn
  go_enter Tryz.func53, Tryz.ntmps53
  go_wp2_with (at_builtin; refine wpList_append_own_at _ rfl _ _ 32 rfl w.heap.size 3 i0 (.int .i64 0) 1 8 Tryz.underlying32 HH.out.1 HH.out.2.1 HH.out.2.2.1 HH.out.2.2.2 rfl (by decide) _ _ _ rfl HW.out ⟨g, 0, none⟩ n cap (ints xs) rfl HL.out HN.out HO.out (by have := Hn.out; simp [maxLen]; omega) (by have := Hn.out; omega) (by simp) ?_)
  intro v' w2 ho hg _ _
  have hb2 : Below w.heap.size w w2 := hb1.grown hg hb1.size (fun k e => by simp [Value.ownBlock] at e; omega)
  have ho2 : w2.ownsRow w.heap.size 3 1 v' n (ints xs) := by simpa using ho
  obtain ⟨a, c, rfl⟩ := own_sl ho2
  have HO2 : Hid (w2.ownsRow w.heap.size 3 1 (.slice a n c) n (ints xs)) := ho2
  clear ho hg hb1 ho2
  go_wp2
  go_ret
  exact ⟨_, rfl, HO2.out, hb2⟩
section
variable {w1 w w' : World} {n1 sb b g mb n : Nat} {lv : Value} {c : Cfg} {x : Tps} {sw : Bool} {ws : Nat → Int} {th : List Tng} {l : List Int} {S : Int → Bool}
theorem sList_any (H : Rs w sb b lv l mb n S) (hl : l.length ≤ 1000000) : Calls Tryz.prog 14 #[.pointer (some ⟨sb, 0, none⟩)] w fun e w' => ∃ v', e = .returned v' ∧ w'.ownsRow w.heap.size 3 1 v' l.length (ints l) ∧ Below w.heap.size w w' := by
 have k1 : w.cell? ⟨sb, 1, none⟩ = some lv := H.cell 1
 have hc := clone_own 0 l.length lv l w H.row (by omega)
 obtain ⟨a, cap, rfl⟩ := own_sl H.row
 clear H
 go_enter Tryz.func14, Tryz.ntmps14
 go_wp2_with fail
 refine hc.mono ?_
 rintro e w2 ⟨v', rfl, h1, h2⟩
 clear hc k1
 obtain ⟨a2, c2, rfl⟩ := own_sl h1
 have H1 : Hid (w2.ownsRow w.heap.size 3 1 (.slice a2 l.length c2) l.length (ints l)) := h1
 clear h1
 go_wp2
 go_ret
 exact ⟨_, rfl, H1.out, h2⟩
end
theorem grow_nil (k : Nat) (hk : k ≤ 4294967296) (w : World) : Calls Tryz.prog 163 #[.slice none 0 0, .int .i64 k] w fun e w' => ∃ v, e = .returned v ∧ w'.ownsRow w.heap.size 3 1 v 0 [] ∧ Below w.heap.size w w' := by
 by_cases h0 : k = 0
 ·subst h0
  go_enter Tryz.func163, Tryz.ntmps163
  go_wp2
  go_ret
  exact ⟨_, rfl, World.ownsRow_nil _ _ _ _, Below.refl _ _⟩
 ·obtain ⟨i0, hi0, hz0, hz1, hz2⟩ := info_parts Tryz.infoInt
  have hr := Lib.run_append_nil_zeros (P := Tryz.prog) w 32 3 32 3 i0 (.int .i64 0) .i64 .i64 Tryz.underlying32 Tryz.underlying3 hi0 hz0 k (by omega) (by omega) (by omega) (by rw [hz2]; omega)
  have hg := grownCap_ge w k 0 3
  have hm := grownCap_le_maxLen w k 0 3 (by simp [maxLen]; omega)
  have hrow : (w.drew.alloc (.cells (Builtin.zeroCells (Value.int .i64 0).cells k ++ Builtin.zeroCells (Value.int .i64 0).cells (grownCap w k 0 3 - k)) 3)).ownsRow w.heap.size 3 1 (.slice (some ⟨w.heap.size, 0, none⟩) 0 (grownCap w k 0 3)) 0 [] :=
   ⟨rfl, .inr ⟨w.heap.size, _, _, rfl, Nat.le_refl _, heap_alloc_new w.drew _, by omega, hm, by simp [size_zeroCells, Value.cells]; omega, rfl⟩⟩
  have hb : Below w.heap.size w (w.drew.alloc (.cells (Builtin.zeroCells (Value.int .i64 0).cells k ++ Builtin.zeroCells (Value.int .i64 0).cells (grownCap w k 0 3 - k)) 3)) := Below.alloc (below_drewN (Below.refl _ _) 1) (Nat.le_refl _) _
  have hk0 : (0 : Int) < k := by omega
  generalize (w.drew.alloc (.cells (Builtin.zeroCells (Value.int .i64 0).cells k ++ Builtin.zeroCells (Value.int .i64 0).cells (grownCap w k 0 3 - k)) 3)) = w2 at *
  generalize grownCap w k 0 3 = cap at *
  clear hi0 hz0 hz1 hz2
  go_enter Tryz.func163, Tryz.ntmps163
  go_wp2_with (first | (at_builtin; refine Lib.wpList_append_run _ rfl _ _ _ _ rfl _ _ rfl rfl _ _ hr ?_) | go_in)
  go_ret
  exact ⟨_, rfl, hrow, hb⟩
def two {α : Type} (a b : α) (k : Nat) : α := if k = 0 then a else b
def upto (X : Nat → List Int) (k : Nat) : List Int := ((List.range k).map X).flatten
theorem upto_succ (X : Nat → List Int) (k : Nat) : upto X (k + 1) = upto X k ++ X k := by simp [upto, List.range_succ]
theorem upto_two (xs ys : List Int) : upto (two xs ys) 2 = xs ++ ys := by simp [upto, two, List.range_succ]
theorem concat_any (B cp : Nat) (V : Nat → Value) (X : Nat → List Int) (w : World) (hB : ∀ k, k < 2 → w.cell? ⟨B, k, none⟩ = some (V k)) (hX : ∀ k, k < 2 → Lrd w.heap.size w (V k) .i64 (X k)) (hl : ∀ k, k < 2 → (X k).length ≤ 1073741824) :
  Calls Tryz.prog 117 #[.slice (some ⟨B, 0, none⟩) 2 cp] w fun e w' => ∃ v, e = .returned v ∧ w'.ownsRow 0 3 1 v (upto X 2).length (ints (upto X 2)) ∧ Below w.heap.size w w' := by
 have HB : Hid (∀ k, k < 2 → w.cell? ⟨B, k, none⟩ = some (V k)) := hB
 have HX : Hid (∀ k, k < 2 → Lrd w.heap.size w (V k) .i64 (X k)) := hX
 have HL : Hid (∀ k, k < 2 → (X k).length ≤ 1073741824) := hl
 have HU : Hid (∀ k, k ≤ 2 → (upto X k).length ≤ k * 1073741824) := fun k hk => by
  induction k with
  | zero => simp [upto]
  | succ k ih =>
   rw [upto_succ, List.length_append]
   have := ih (by omega)
   have := hl k (by omega)
   omega
 obtain ⟨i0, hi0, hz0, hz1, hz2⟩ := info_parts Tryz.infoInt
 have HI : Hid (Tryz.prog.info? 3 = some i0 ∧ i0.zero = some (.int .i64 0) ∧ i0.size = 1 ∧ i0.bytes = 8) := ⟨hi0, hz0, hz1, hz2⟩
 have hBlt : B < w.heap.size := World.block_lt_of_cell? _ _ (hB 0 (by decide))
 clear hi0 hz0 hz1 hz2 hB hX hl
 go_enter Tryz.func117, Tryz.ntmps117
 go_wp2
 go_loopw [3, 11] (fun v3 v11 wr => ∃ k : Nat, k ≤ 2 ∧ v11 = .int .i64 k ∧ v3 = .int .i64 (upto X k).length ∧ w = wr) (fun _ v11 _ => 2 - (intOf v11).toNat)
 case atStart => exact ⟨0, by omega, rfl, rfl, rfl⟩
 case round =>
  obtain ⟨k, hk, rfl, rfl, rfl⟩ := hrel
  by_cases hkl : k < 2
  ·obtain ⟨a, cap, hv, hcap, hc⟩ := HX.out k hkl
   have cb := HB.out k hkl
   rw [hv] at cb
   have hs : ((upto X k).length : Int) + ((X k).length : Int) = ((upto X (k + 1)).length : Int) := by rw [upto_succ, List.length_append]; omega
   have h1 := HU.out k hk
   have h2 := HL.out k hkl
   have hkI : (k : Int) < 2 := by omega
   generalize (X k).length = xl at *
   generalize (upto X k).length = ul at *
   generalize hq : (upto X (k + 1)).length = ul2 at *
   have Hq : Hid ((upto X (k + 1)).length = ul2) := hq
   have Hs : Hid ((ul : Int) + xl = ul2) := hs
   clear hc hq hs hv
   go_wp2
   go_roundw
   case rel => exact ⟨k + 1, by omega, by go_num, by rw [Hq.out, ← Hs.out], trivial⟩
   case measure => simp [intOf]; omega
  ·have hke : k = 2 := by omega
   subst hke
   have hgr := grow_nil (upto X 2).length (by have := HU.out 2 (by omega); omega) w
   have hul := HU.out 2 (by omega)
   go_wp2_with fail
   refine hgr.mono ?_
   rintro e w2 ⟨v, rfl, hrow, hbe⟩
   have Hrow0 : Hid (w2.ownsRow w.heap.size 3 1 v 0 []) := hrow
   obtain ⟨a, cap, rfl⟩ := own_sl hrow
   clear hgr hrow
   go_wp2
   go_loopw [6, 27] (fun v6 v27 w3 => ∃ k : Nat, k ≤ 2 ∧ v27 = .int .i64 k ∧ Hid (w3.ownsRow w.heap.size 3 1 v6 (upto X k).length (ints (upto X k))) ∧ Hid (Below w.heap.size w w3)) (fun _ v27 _ => 2 - (intOf v27).toNat)
   case atStart => exact ⟨0, by omega, rfl, Hrow0, hbe⟩
   case round =>
    obtain ⟨k, hk, rfl, Hrow, Hbe⟩ := hrel
    clear Hrow0 hbe
    by_cases hkl : k < 2
    ·obtain ⟨a2, cap2, hv, hcap2, hc⟩ := HX.out k hkl
     have cb := (Hbe.out.cell (p := ⟨B, k, none⟩) hBlt).trans (HB.out k hkl)
     rw [hv] at cb
     have h1 := HU.out k hk
     have h2 := HL.out k hkl
     have hkI : (k : Int) < 2 := by omega
     obtain ⟨a6, cap6, rfl⟩ := own_sl Hrow.out
     cases a2 with
     | none =>
      have hx0 : X k = [] := by
       cases hx : X k with
       | nil => rfl
       | cons y ys =>
        obtain ⟨q, off, e, -⟩ := hc 0 y (by rw [hx]; rfl)
        cases e
      have hle : (upto X k).length ≤ cap6 := by
       rcases Hrow.out.2 with ⟨e1, e2⟩ | ⟨g, cap, cur, e1, -, -, e2, -⟩
       ·simp at e1; omega
       ·simp at e1
        omega
      have Hnx : Hid (upto X (k + 1) = upto X k) := by
       show _ = _
       rw [upto_succ, hx0, List.append_nil]
      rw [hx0] at cb
      have hr := run_append_nothing (P := Tryz.prog) wr 32 32 32 3 i0 Tryz.underlying32 HI.out.1 a6 (upto X k).length cap6 hle (.slice none 0 cap2) (Src.ofNil wr Tryz.underlying32 cap2)
      have cb' : wr.cell? ⟨B, k, none⟩ = some (.slice none 0 cap2) := cb
      clear cb hc hv hx0
      go_wp2_with (first | (at_builtin; refine Lib.wpList_append_run _ rfl _ _ _ _ rfl _ _ rfl rfl _ _ hr ?_) | go_in)
      go_roundw
      case rel => exact ⟨k + 1, by omega, by go_num, by rw [Hnx.out]; exact Hrow, Hbe⟩
      case measure => simp [intOf]; omega
     | some ad =>
      have Hnx : Hid (upto X (k + 1) = upto X k ++ X k) := upto_succ X k
      have Hnews : Hid (∀ j u, (ints (X k))[j]? = some u → wr.cell? (ad.add j) = some u) := fun j u hu => by
       rw [List.getElem?_map] at hu
       cases hz : (X k)[j]? with
       | none => rw [hz] at hu; simp at hu
       | some z =>
        rw [hz] at hu
        simp at hu
        obtain ⟨q, off, e1, e2, e3⟩ := hc j z hz
        simp at e1
        subst e1
        have hadd : (⟨q, off, none⟩ : Addr).add j = ⟨q, off + j, none⟩ := by unfold Addr.add; split <;> simp_all
        rw [hadd, ← hu]
        exact (Hbe.out.cell (p := ⟨q, off + j, none⟩) e2).trans e3
      clear hc hv
      go_wp2_with (first | (at_builtin; refine wpList_append_own_at _ rfl _ _ 32 rfl w.heap.size 3 i0 (.int .i64 0) 1 8 Tryz.underlying32 HI.out.1 HI.out.2.1 HI.out.2.2.1 HI.out.2.2.2 rfl (by decide) _ _ _ rfl Hrow.out ad (X k).length cap2 (ints (X k)) rfl (by simp) Hnews.out (fun u hu => by obtain ⟨z, -, rfl⟩ := List.mem_map.1 hu; rfl) (by simp [maxLen]; omega) (by omega) (Hbe.out.size) ?_; intro v' w4 hown' hgrow _ hat) | go_in)
      have Hrow4 : Hid (w4.ownsRow w.heap.size 3 1 v' (upto X (k + 1)).length (ints (upto X (k + 1)))) := by
       show w4.ownsRow w.heap.size 3 1 v' (upto X (k + 1)).length (ints (upto X (k + 1)))
       rw [Hnx.out]
       simpa [ints] using hown'
      have Hbe4 : Hid (Below w.heap.size w w4) := Hbe.out.grown hgrow Hbe.out.size (fun y hy => by
       rcases Hrow.out.2 with ⟨e1, -⟩ | ⟨g, cap, cur, e1, e2, -⟩
       ·have hy' : (Value.slice a6 (upto X k).length cap6).ownBlock = some y := hy
        rw [e1] at hy'
        simp [Value.ownBlock] at hy'
       ·have hy' : (Value.slice a6 (upto X k).length cap6).ownBlock = some y := hy
        rw [e1] at hy'
        simp [Value.ownBlock] at hy'
        omega)
      obtain ⟨a7, c7, hv7⟩ := own_sl hown'
      subst hv7
      clear hown' hgrow hat Hrow Hbe
      go_roundw
      case rel => exact ⟨k + 1, by omega, by go_num, Hrow4, Hbe4⟩
      case measure => simp [intOf]; omega
    ·have hke : k = 2 := by omega
     subst hke
     go_wp2
     go_ret
     exact ⟨_, rfl, ⟨Hrow.out.1, by
      rcases Hrow.out.2 with h | ⟨g, cap, cur, h1, -, h2⟩
      ·exact .inl h
      ·exact .inr ⟨g, cap, cur, h1, Nat.zero_le _, h2⟩⟩, Hbe.out⟩
section
variable {w1 w w' : World} {n1 sb b g mb n : Nat} {lv : Value} {c : Cfg} {x : Tps} {sw : Bool} {ws : Nat → Int} {th : List Tng} {l : List Int} {S : Int → Bool}
end
end Go.Proofs.YtlkengnefhhppaaGreatDoor
