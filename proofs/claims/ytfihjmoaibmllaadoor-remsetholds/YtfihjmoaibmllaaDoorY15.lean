/-
  once: each address where it comes first.
-/
import Derived.Test.YtfihjmoaibmllaaDoorY14
set_option linter.unusedVariables false
set_option maxRecDepth 20000
namespace Go.Proofs.YtfihjmoaibmllaaDoor
open Go.RowKit Go.Shelf

def ded1 (acc : List Int) (x : Int) : List Int := if x ∈ acc then acc else acc ++ [x]
def ded (xs : List Int) : List Int := xs.foldl ded1 []

theorem ded_snoc (xs : List Int) (x : Int) : ded (xs ++ [x]) = ded1 (ded xs) x := by simp [ded]

theorem snoc_ind {P : List Int → Prop} (h0 : P []) (h1 : ∀ xs x, P xs → P (xs ++ [x])) : ∀ xs, P xs := fun xs => by
  have key : ∀ ys : List Int, P ys.reverse := fun ys => by
    induction ys with
    | nil => exact h0
    | cons y ys ih => rw [List.reverse_cons]; exact h1 _ _ ih
  have := key xs.reverse
  rwa [List.reverse_reverse] at this

theorem mem_ded (xs : List Int) : ∀ y, y ∈ ded xs ↔ y ∈ xs := by
  intro y
  revert xs
  refine snoc_ind (by simp [ded]) (fun xs x ih => ?_)
  · rw [ded_snoc]
    unfold ded1
    by_cases h : x ∈ ded xs
    · rw [if_pos h]
      constructor
      · intro h1; simp [ih.1 h1]
      · intro h1
        simp at h1
        rcases h1 with h1 | rfl
        · exact ih.2 h1
        · exact h
    · rw [if_neg h]
      simp [ih]

theorem ded_len (xs : List Int) : (ded xs).length ≤ xs.length := by
  revert xs
  refine snoc_ind (by simp [ded]) (fun xs x ih => ?_)
  · rw [ded_snoc]
    unfold ded1
    split
    · simp; omega
    · simp; omega

theorem ded_nodup (xs : List Int) : xs.Nodup → ded xs = xs := by
  revert xs
  refine snoc_ind (fun _ => rfl) (fun xs x ih => ?_)
  · intro h
    rw [List.nodup_append] at h
    obtain ⟨h1, -, h3⟩ := h
    rw [ded_snoc, ih h1]
    unfold ded1
    rw [if_neg]
    intro hm
    exact h3 x hm x (by simp) rfl

set_option maxHeartbeats 4000000 in
theorem once_any (nv : Value) (ns : List Int) (w : World) (hrd : Lrd w.heap.size w nv .i64 ns) (hin : ∀ a, a ∈ ns → InI a) (hl : ns.length ≤ 100000) :
    Calls Tryd.prog 46 #[nv] w fun e w' => ∃ v, e = .returned v ∧ w'.ownsRow 0 3 1 v (ded ns).length (ints (ded ns)) ∧ Below w.heap.size w w' := by
  have hmm := @run_makeMap Tryd.prog
  obtain ⟨av, cap, rfl, hcap, hc⟩ := hrd
  obtain ⟨i0, hi0, hz0, hz1, hz2⟩ := info_parts Tryd.infoInt
  have HI : Hid (Tryd.prog.info? 3 = some i0 ∧ i0.zero = some (.int .i64 0) ∧ i0.size = 1 ∧ i0.bytes = 8) := ⟨hi0, hz0, hz1, hz2⟩
  have Hc : Hid (∀ (f : Nat) z, ns[f]? = some z → ∃ q off, av = some ⟨q, off, none⟩ ∧ q < w.heap.size ∧ w.cell? ⟨q, off + f, none⟩ = some (.int .i64 z)) := hc
  have Hin : Hid (∀ a, a ∈ ns → InI a) := hin
  have m0 := Ms.made w
  have b0 : Below w.heap.size w (w.alloc (.map #[] 0)) := Below.alloc (Below.refl _ _) (Nat.le_refl _) _
  clear hi0 hz0 hz1 hz2 hc hin
  go_enter Tryd.func46, Tryd.ntmps46
  go_upto_region 2 with fail
  have Hm0 : Hid (Ms (w.alloc (.map #[] 0)) w.heap.size 0 (fun _ => false)) := m0
  have Hb0 : Hid (Below w.heap.size w (w.alloc (.map #[] 0))) := b0
  obtain ⟨M, hM⟩ : ∃ M, M = w.heap.size := ⟨_, rfl⟩
  have HM : Hid (M = w.heap.size) := hM
  rw [← hM] at Hm0 ⊢
  generalize w.alloc (.map #[] 0) = w0 at *
  clear m0 b0 hM hmm
  go_wp2
  go_loopw [4, 12] (fun v4 v12 wr => ∃ k : Nat, k ≤ ns.length ∧ v12 = .int .i64 k ∧ Hid (wr.ownsRow 0 3 1 v4 (ded (ns.take k)).length (ints (ded (ns.take k)))) ∧ Hid (Ms wr M k (fun y => decide (y ∈ ded (ns.take k)))) ∧ Hid (Below w.heap.size w wr) ∧ Hid (∀ y, v4.ownBlock = some y → w.heap.size ≤ y)) (fun _ v12 _ => ns.length - (intOf v12).toNat)
  case atStart => exact ⟨0, Nat.zero_le _, rfl, World.ownsRow_nil _ _ _ _, Hm0.out.congr (fun a _ => by simp [ded]), Hb0, (fun y hy => by simp [Value.ownBlock] at hy : ∀ y, (Value.slice none 0 0).ownBlock = some y → w.heap.size ≤ y)⟩
  case round =>
    obtain ⟨k, hk, rfl, Hrow, Hms, Hbe, Hfr⟩ := hrel
    clear Hm0 Hb0
    by_cases hkl : k < ns.length
    · have hak : ns[k]? = some (ns[k]'hkl) := List.getElem?_eq_getElem hkl
      generalize ns[k]'hkl = a at hak
      obtain ⟨q, off, rfl, hq, ca⟩ := Hc.out k a hak
      have ca' : wr.cell? ⟨q, off + k, none⟩ = some (.int .i64 a) := (Hbe.out.cell hq).trans ca
      have Ha : Hid (InI a) := Hin.out a (List.mem_of_getElem? hak)
      have Htk : Hid (ded (ns.take (k + 1)) = ded1 (ded (ns.take k)) a) := by
        show _ = _
        rw [List.take_add_one, hak]
        exact ded_snoc _ _
      have hkey := key_of Ha.out
      obtain ⟨D, hown, hS⟩ := Hms.out
      have hSa : Maps.has D (.int .i64 a) = decide (a ∈ ded (ns.take k)) := hS a Ha.out
      have HS : Hid (∀ a, InI a → Maps.has D (.int .i64 a) = decide (a ∈ ded (ns.take k))) := hS
      clear hS
      have hkI : (k : Int) < (ns.length : Int) := by omega
      have Hdl : Hid ((ded (ns.take k)).length ≤ k) := by
        have := ded_len (ns.take k)
        simp at this
        show _ ≤ _
        omega
      clear ca hak hq
      by_cases hm : a ∈ ded (ns.take k)
      · rw [decide_eq_true hm] at hSa
        have Hnx : Hid (ded (ns.take (k + 1)) = ded (ns.take k)) := by
          show _ = _
          rw [Htk.out]
          unfold ded1
          rw [if_pos hm]
        have b1 : Below wr.heap.size wr (wr.alloc (.cells #[] 115)) := Below.alloc (Below.refl _ _) (Nat.le_refl _) _
        obtain ⟨a4, n4, c4, rfl⟩ := row_slice Hrow.out
        have Hres : Hid (∀ w2, Below wr.heap.size wr w2 → w2.ownsRow 0 3 1 (.slice a4 n4 c4) (ded (ns.take (k + 1))).length (ints (ded (ns.take (k + 1)))) ∧ Ms w2 M (k + 1) (fun y => decide (y ∈ ded (ns.take (k + 1)))) ∧ Below w.heap.size w w2) := fun w2 l2 => by
          rw [Hnx.out]
          exact ⟨row_keep Hrow.out (fun y hy => l2.block y (row_lt Hrow.out y hy)), (Hms.out.below l2).mono (by omega), Hbe.out.trans (l2.mono Hbe.out.size)⟩
        clear hm
        go_wp2_with (first
          | (at_lookup; refine wpList_lookup_own_unit _ rfl _ _ 80 rfl 3 115 Tryd.keyed Tryd.underlying80 (Tryd.zeroU _) M k D rfl hown _ _ rfl hkey ?_; rw [hSa])
          | go_in)
        go_roundw
        case rel =>
          obtain ⟨r1, r2, r3⟩ := Hres.out _ b1
          exact ⟨k + 1, by omega, by go_num, r1, r2, r3, Hfr⟩
        case measure => simp [intOf]; omega
      · rw [decide_eq_false hm] at hSa
        have Hnx : Hid (ded (ns.take (k + 1)) = ded (ns.take k) ++ [a]) := by
          show _ = _
          rw [Htk.out]
          unfold ded1
          rw [if_neg hm]
        have b1 : Below wr.heap.size wr (wr.alloc (.cells #[] 115)) := Below.alloc (Below.refl _ _) (Nat.le_refl _) _
        obtain ⟨a4, n4, c4, rfl⟩ := row_slice Hrow.out
        have Hrow1 : Hid ((wr.alloc (.cells #[] 115)).ownsRow 0 3 1 (.slice a4 n4 c4) (ded (ns.take k)).length (ints (ded (ns.take k)))) := row_keep Hrow.out (fun y hy => b1.block y (row_lt Hrow.out y hy))
        have hown1 := hown.alloc (.cells #[] 115)
        have Hbe1 : Hid (Below w.heap.size w (wr.alloc (.cells #[] 115))) := Hbe.out.trans (b1.mono Hbe.out.size)
        have HmM : Hid (M < wr.heap.size) := Hms.out.lt
        clear hm
        go_upto_region 8 with (at_lookup; refine wpList_lookup_own_unit _ rfl _ _ 80 rfl 3 115 Tryd.keyed Tryd.underlying80 (Tryd.zeroU _) M k D rfl hown _ _ rfl hkey ?_; rw [hSa])
        clear hown Hrow Hbe Hms b1 ca'
        generalize wr.alloc (.cells #[] 115) = w1 at *
        go_upto_region 9 with (at_mapUpdate; refine wpList_mapUpdate_in _ rfl _ _ _ 80 rfl 3 115 Tryd.keyed Tryd.underlying80 unitElem M k D rfl hown1 (by unfold maxLen; omega) _ _ _ rfl rfl hkey (.agg []) [] unitElem_mk ?_; intro w2 hown2 hturn2)
        have t2 := turned_touch hturn2
        have Hms2 : Hid (Ms w2 M (k + 1) (fun y => decide (y ∈ ded (ns.take (k + 1))))) := (Ms.put Ha.out hown1 HS.out hown2).congr (fun y _ => by
          rw [Hnx.out]
          by_cases e : y = a
          · subst e; simp
          · simp [e])
        have hneM : ∀ y, (Value.slice a4 n4 c4).ownBlock = some y → y ≠ M := fun y hy e => by
          subst e
          rcases Hrow1.out.2 with ⟨e, _⟩ | ⟨z, cp, cur, e, _, hz, _⟩
          · rw [e] at hy; simp [Value.ownBlock] at hy
          · rw [e] at hy
            simp [Value.ownBlock] at hy
            subst hy
            obtain ⟨es, cl, h1, -⟩ := hown1
            rw [h1] at hz
            simp at hz
        have Hrow2 : Hid (w2.ownsRow 0 3 1 (.slice a4 n4 c4) (ded (ns.take k)).length (ints (ded (ns.take k)))) := row_keep Hrow1.out (fun y hy => t2.block y (row_lt Hrow1.out y hy) (by simpa using hneM y hy))
        have Hbe2 : Hid (Below w.heap.size w w2) := Hbe1.out.trans (t2.below Hbe1.out.size (fun y hy => by simp at hy; have := HM.out; omega))
        clear t2 hown1 hown2 hturn2 hneM Hrow1 Hbe1 HS hSa
        go_wp2_with (at_builtin; refine wpList_append_own_at _ rfl _ _ 42 rfl 0 3 i0 (.int .i64 0) 1 8 Tryd.underlying42 HI.out.1 HI.out.2.1 HI.out.2.2.1 HI.out.2.2.2 rfl (by decide) _ _ _ rfl (Hrow2.out.alloc _) ⟨w2.heap.size, 0, none⟩ 1 1 [.int .i64 a] rfl rfl (cell_one_new _ _ _) (by simp [Value.oneCell']) (by have := Hdl.out; simp [maxLen]; omega) (by have := Hdl.out; omega) (by omega) ?_; intro v' w3 hown' hgrow _ hat)
        have t3 : Touch (Value.slice a4 n4 c4).ownBlock.toList w2 w3 := ⟨hgrow.os, hgrow.tape, hgrow.output, by have := hgrow.size; simp at this; omega, fun k hk hn => (hgrow.block k (by simp; omega) (fun e => hn (by rw [Option.mem_toList]; exact e.symm))).trans (Below.heap_alloc _ _ _ hk)⟩
        have Hrow3 : Hid (w3.ownsRow 0 3 1 v' (ded (ns.take (k + 1))).length (ints (ded (ns.take (k + 1))))) := by
          show w3.ownsRow 0 3 1 v' (ded (ns.take (k + 1))).length (ints (ded (ns.take (k + 1))))
          rw [Hnx.out]
          simpa [ints] using hown'
        have Hms3 : Hid (Ms w3 M (k + 1) (fun y => decide (y ∈ ded (ns.take (k + 1))))) := Hms2.out.keep (t3.block M Hms2.out.lt (fun hm => by
          rw [Option.mem_toList] at hm
          rcases Hrow2.out.2 with ⟨e, _⟩ | ⟨z, cp, cur, e, _, hz, _⟩
          · rw [e] at hm; simp [Value.ownBlock] at hm
          · rw [e] at hm
            simp [Value.ownBlock] at hm
            subst hm
            exact Hms2.out.ne hz rfl))
        have Hbe3 : Hid (Below w.heap.size w w3) := Hbe2.out.trans (t3.below Hbe2.out.size (fun y hy => by rw [Option.mem_toList] at hy; exact Hfr.out y hy))
        have Hfr3 : Hid (∀ y, v'.ownBlock = some y → w.heap.size ≤ y) := fun y hy => by
          rcases hat with h | h
          · exact Hfr.out y (h.symm.trans hy)
          · rw [h] at hy
            have := Hbe2.out.size
            simp at hy
            omega
        obtain ⟨a5, n5, c5, hv5⟩ := row_slice hown'
        subst hv5
        clear hown' hgrow hat t3 Hms2 Hrow2 Hbe2 Hfr
        go_roundw
        case rel => exact ⟨k + 1, by omega, by go_num, Hrow3, Hms3, Hbe3, Hfr3⟩
        case measure => simp [intOf]; omega
    · have hke : k = ns.length := by omega
      have Hr : Hid (wr.ownsRow 0 3 1 u4 (ded ns).length (ints (ded ns))) := by
        have := Hrow.out
        rw [hke, List.take_length] at this
        exact this
      have hkn : ¬ (k : Int) < (ns.length : Int) := by omega
      clear Hrow
      go_wp2
      go_ret
      exact ⟨_, rfl, Hr.out, Hbe.out⟩

end Go.Proofs.YtfihjmoaibmllaaDoor
