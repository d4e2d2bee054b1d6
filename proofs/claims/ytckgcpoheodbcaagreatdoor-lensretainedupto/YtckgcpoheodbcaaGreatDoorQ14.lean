import Derived.Test.YtckgcpoheodbcaaGreatDoorQ13
set_option linter.unusedVariables false
set_option maxHeartbeats 8000000
set_option maxRecDepth 20000
namespace Go.Proofs.YtckgcpoheodbcaaGreatDoor
open Go.RowKit Go.Shelf
theorem infoE_roomFrames : (Tryz.prog.info? 30).map (fun i => (i.zero, i.size, i.bytes)) = some (some (.slice none 0 0), 1, 24) := by kernel_rfl
theorem infoS_roomFrames : (Tryz.prog.info? 23).map (fun i => (i.zero, i.size, i.bytes)) = some (some (.slice none 0 0), 1, 24) := by kernel_rfl
theorem marks_Qm {w : World} {F : List Nat} {N : Nat → Nat} (hF : ∀ k, k ∈ F → k < w.heap.size) (hd : ∀ k, w.heap.size ≤ k → N k = 0) (m : Nat) :
  Below w.heap.size w (((((w.alloc (.cells #[.int .i64 (-7701)] 3)).alloc (.cells #[.slice (some ⟨w.heap.size, 0, none⟩) 1 1] 24)).alloc (.cells #[.int .i64 (-7702)] 3)).alloc (.cells #[.slice (some ⟨w.heap.size + 1 + 1, 0, none⟩) 1 1] 24)).alloc (.cells #[.slice (some ⟨w.heap.size + 1, 0, none⟩) 1 1, .slice (some ⟨w.heap.size + 1 + 1 + 1, 0, none⟩) 1 1] 30)) ∧
   Qm (((((w.alloc (.cells #[.int .i64 (-7701)] 3)).alloc (.cells #[.slice (some ⟨w.heap.size, 0, none⟩) 1 1] 24)).alloc (.cells #[.int .i64 (-7702)] 3)).alloc (.cells #[.slice (some ⟨w.heap.size + 1 + 1, 0, none⟩) 1 1] 24)).alloc (.cells #[.slice (some ⟨w.heap.size + 1, 0, none⟩) 1 1, .slice (some ⟨w.heap.size + 1 + 1 + 1, 0, none⟩) 1 1] 30)) N F (.slice (some ⟨w.heap.size + 1, 0, none⟩) 1 1) (2 * m) ∧
   Qm (((((w.alloc (.cells #[.int .i64 (-7701)] 3)).alloc (.cells #[.slice (some ⟨w.heap.size, 0, none⟩) 1 1] 24)).alloc (.cells #[.int .i64 (-7702)] 3)).alloc (.cells #[.slice (some ⟨w.heap.size + 1 + 1, 0, none⟩) 1 1] 24)).alloc (.cells #[.slice (some ⟨w.heap.size + 1, 0, none⟩) 1 1, .slice (some ⟨w.heap.size + 1 + 1 + 1, 0, none⟩) 1 1] 30)) N F (.slice (some ⟨w.heap.size + 1 + 1 + 1, 0, none⟩) 1 1) (2 * m + 1) ∧
   ∀ j u, [(.slice (some ⟨w.heap.size + 1, 0, none⟩) 1 1 : Value), .slice (some ⟨w.heap.size + 1 + 1 + 1, 0, none⟩) 1 1][j]? = some u → (((((w.alloc (.cells #[.int .i64 (-7701)] 3)).alloc (.cells #[.slice (some ⟨w.heap.size, 0, none⟩) 1 1] 24)).alloc (.cells #[.int .i64 (-7702)] 3)).alloc (.cells #[.slice (some ⟨w.heap.size + 1 + 1, 0, none⟩) 1 1] 24)).alloc (.cells #[.slice (some ⟨w.heap.size + 1, 0, none⟩) 1 1, .slice (some ⟨w.heap.size + 1 + 1 + 1, 0, none⟩) 1 1] 30)).cell? ((⟨w.heap.size + 1 + 1 + 1 + 1, 0, none⟩ : Addr).add j) = some u := by
 have b1 : Below w.heap.size w (w.alloc (.cells #[.int .i64 (-7701)] 3)) := Below.alloc (Below.refl _ _) (Nat.le_refl _) _
 have b2 := Below.alloc b1 b1.size (.cells #[.slice (some ⟨w.heap.size, 0, none⟩) 1 1] 24)
 have b3 := Below.alloc b2 b2.size (.cells #[.int .i64 (-7702)] 3)
 have b4 := Below.alloc b3 b3.size (.cells #[.slice (some ⟨w.heap.size + 1 + 1, 0, none⟩) 1 1] 24)
 have b5 := Below.alloc b4 b4.size (.cells #[.slice (some ⟨w.heap.size + 1, 0, none⟩) 1 1, .slice (some ⟨w.heap.size + 1 + 1 + 1, 0, none⟩) 1 1] 30)
 have c1 := Kg.heap_cell (heap_alloc_new w (.cells #[.int .i64 (-7701)] 3 (0, 0))) 0
 have c2 := Kg.heap_cell (heap_alloc_new (w.alloc (.cells #[.int .i64 (-7701)] 3)) (.cells #[.slice (some ⟨w.heap.size, 0, none⟩) 1 1] 24 (0, 0))) 0
 rw [World.size_alloc] at c2
 have c3 := Kg.heap_cell (heap_alloc_new ((w.alloc (.cells #[.int .i64 (-7701)] 3)).alloc (.cells #[.slice (some ⟨w.heap.size, 0, none⟩) 1 1] 24)) (.cells #[.int .i64 (-7702)] 3 (0, 0))) 0
 rw [World.size_alloc, World.size_alloc] at c3
 have c4 := Kg.heap_cell (heap_alloc_new (((w.alloc (.cells #[.int .i64 (-7701)] 3)).alloc (.cells #[.slice (some ⟨w.heap.size, 0, none⟩) 1 1] 24)).alloc (.cells #[.int .i64 (-7702)] 3)) (.cells #[.slice (some ⟨w.heap.size + 1 + 1, 0, none⟩) 1 1] 24 (0, 0))) 0
 rw [World.size_alloc, World.size_alloc, World.size_alloc] at c4
 have e1 : mrk (2 * m) = -7701 := by unfold mrk; rw [if_pos (by omega)]
 have e2 : mrk (2 * m + 1) = -7702 := by unfold mrk; rw [if_neg (by omega)]
 refine ⟨b5, ⟨w.heap.size + 1, 1, rfl, fun hk => by have := hF _ hk; omega, by simp <;> omega, hd _ (by omega), _, (World.cell?_of_block ?_).trans c2, ⟨w.heap.size, 1, rfl, fun hk => Nat.lt_irrefl _ (hF _ hk), by simp <;> omega, hd _ (Nat.le_refl _), ?_⟩⟩, ⟨w.heap.size + 1 + 1 + 1, 1, rfl, fun hk => by have := hF _ hk; omega, by simp, hd _ (by omega), _, (World.cell?_of_block ?_).trans c4, ⟨w.heap.size + 1 + 1, 1, rfl, fun hk => by have := hF _ hk; omega, by simp <;> omega, hd _ (by omega), ?_⟩⟩, ?_⟩
 ·rw [Below.heap_alloc _ _ _ (by simp <;> omega), Below.heap_alloc _ _ _ (by simp <;> omega), Below.heap_alloc _ _ _ (by simp)]
 ·rw [e1]
  refine (World.cell?_of_block ?_).trans c1
  rw [Below.heap_alloc _ _ _ (by simp <;> omega), Below.heap_alloc _ _ _ (by simp <;> omega), Below.heap_alloc _ _ _ (by simp <;> omega), Below.heap_alloc _ _ _ (by simp)]
 ·rw [Below.heap_alloc _ _ _ (by simp)]
 ·rw [e2]
  refine (World.cell?_of_block ?_).trans c3
  rw [Below.heap_alloc _ _ _ (by simp <;> omega), Below.heap_alloc _ _ _ (by simp)]
 ·have h9 := cell_two_new ((((w.alloc (.cells #[.int .i64 (-7701)] 3)).alloc (.cells #[.slice (some ⟨w.heap.size, 0, none⟩) 1 1] 24)).alloc (.cells #[.int .i64 (-7702)] 3)).alloc (.cells #[.slice (some ⟨w.heap.size + 1 + 1, 0, none⟩) 1 1] 24)) (.slice (some ⟨w.heap.size + 1, 0, none⟩) 1 1) (.slice (some ⟨w.heap.size + 1 + 1 + 1, 0, none⟩) 1 1) 30
  rw [World.size_alloc, World.size_alloc, World.size_alloc, World.size_alloc] at h9
  exact h9
def csF (l : List (Value × List (Value × List Int))) : Nat := (l.map (fun t => t.2.length + 1)).sum
theorem csF_snoc {l : List (Value × List (Value × List Int))} {k : Nat} {x : Value × List (Value × List Int)} (h : l[k]? = some x) : csF (l.take (k + 1)) = csF (l.take k) + (x.2.length + 1) := by
 unfold csF
 rw [take_snocL h, List.map_append, List.sum_append]
 simp
theorem csF_take (l : List (Value × List (Value × List Int))) (k : Nat) : csF (l.take k) ≤ csF l := by
 have h : csF (l.take k ++ l.drop k) = csF (l.take k) + csF (l.drop k) := by
  unfold csF
  rw [List.map_append, List.sum_append]
 rw [List.take_append_drop] at h
 omega
def PT (lo : Nat) (w : World) (N : Nat → Nat) (F : List Nat) (v : Value) (ts : List (Value × List (Value × List Int))) : Prop := ∃ b, GotS (PL lo) w N F lo b v ts
theorem PT.sta (lo : Nat) : Sta (PT lo) := fun _ _ _ _ _ _ _ _ ⟨b, h⟩ s => ⟨b, h.stp (PL.sta lo) s⟩
theorem roomFrames_any {w : World} {n1 R : Nat} {N : Nat → Nat} {S : RS} {X : List Nat} (h : Bd w n1 R N S X) (n0 : Nat) (hn : n0 ≤ n1) (v : Value) (fs : List (Value × List (Value × List Int))) (hv : Trd n0 w v fs) (hl : fs.length ≤ 2000000) (hll : ∀ x, x ∈ fs → (x.2.length ≤ 2000000 ∧ ∀ y, y ∈ x.2 → y.2.length ≤ 1073741824)) (hT : S.tot + csF fs ≤ 1000000000) (hn1 : n1 ≤ w.heap.size) :
  Calls Tryz.prog 15 #[.pointer (some ⟨R, 0, none⟩), v] w fun e w' => ∃ u, e = .returned u ∧ RPost n1 R N S X w w' (csF fs + 1) (fun w' N' F' => ∃ fs', fs'.map (fun t => t.2.map (·.2)) = fs.map (fun t => t.2.map (·.2)) ∧ PT n1 w' N' F' u fs') := by
 obtain ⟨i0, hi0, hj0, hj1, hj2⟩ := info_parts infoE_roomFrames
 have HI : Hid (Tryz.prog.info? 30 = some i0 ∧ i0.zero = some (.slice none 0 0) ∧ i0.size = 1 ∧ i0.bytes = 24) := ⟨hi0, hj0, hj1, hj2⟩
 have HBd : Hid (Bd w n1 R N S X) := h
 have HT : Hid (S.tot + csF fs ≤ 1000000000) := hT
 have Hv : Hid (Trd n0 w v fs) := hv
 have Hll : Hid (∀ x, x ∈ fs → (x.2.length ≤ 2000000 ∧ ∀ y, y ∈ x.2 → y.2.length ≤ 1073741824)) := hll
 obtain ⟨av, cp, rfl, -⟩ := hv
 clear hi0 hj0 hj1 hj2 h hT hll
 go_enter Tryz.func15, Tryz.ntmps15
 go_upto_region 2 with fail
 have H0 : Hid (Inp (PL n1) Qm 30 w (w.alloc (.cells #[] 30)) n1 R N N S S X (.slice (some ⟨w.heap.size, 0, none⟩) 0 0) ([] : List (Value × List (Value × List Int))) []) := Inp.start HBd.out
 obtain ⟨v0, hv0⟩ : ∃ v0, v0 = Value.slice (some ⟨w.heap.size, 0, none⟩) 0 0 := ⟨_, rfl⟩
 rw [← hv0] at H0 ⊢
 clear hv0
 generalize w.alloc (.cells #[] 30) = w0 at *
 go_wp2
 go_loopw [5, 6] (fun v5 v6 wr => ∃ (k : Nat) (N' : Nat → Nat) (S' : RS) (L : List (Value × List (Value × List Int))), k ≤ fs.length ∧ v6 = .int .i64 k ∧ Hid (L.length = k) ∧ Hid (L.map (fun t => t.2.map (·.2)) = (fs.take k).map (fun t => t.2.map (·.2))) ∧ Hid (Inp (PL n1) Qm 30 w wr n1 R N N' S S' X v5 L []) ∧ Hid (S'.tot = S.tot + csF (fs.take k))) (fun _ v6 _ => fs.length - (intOf v6).toNat)
 case atStart => exact ⟨0, N, S, [], Nat.zero_le _, rfl, rfl, rfl, H0, rfl⟩
 case round =>
  obtain ⟨k, N', S', L, hk, rfl, HLk, HLd, Hi, Ht⟩ := hrel
  clear H0
  have hrow := Hi.out.row
  rw [List.length_nil, Nat.add_zero, List.append_nil, HLk.out] at hrow
  obtain ⟨al, cl, hvl⟩ := own_slI hrow
  subst hvl
  have Hrow : Hid (wr.ownsRow w.heap.size 30 1 (.slice al k cl) k (L.map (·.1))) := hrow
  clear hrow
  have BW : Hid (Below n0 w wr) := Hi.out.tc.below (Nat.le_trans hn hn1) (fun q hq => Nat.le_trans hn (HBd.out.lt q hq).2)
  by_cases hkl : k < fs.length
  ·have hkI : (k : Int) < (fs.length : Int) := by omega
   have hak : fs[k]? = some (fs[k]'hkl) := List.getElem?_eq_getElem hkl
   generalize fs[k]'hkl = x at hak
   obtain ⟨a', c', ea, hob⟩ := Hv.out.below BW.out
   cases ea
   obtain ⟨hp, q, off, rfl, hq, hc⟩ := hob k x hak
   have Hcs : Hid (csF (fs.take (k + 1)) = csF (fs.take k) + (x.2.length + 1)) := csF_snoc hak
   have Hcl : Hid (csF (fs.take (k + 1)) ≤ csF fs) := csF_take fs (k + 1)
   have hsub := roomIntLists_any Hi.out.bd n0 hn x.1 x.2 hp (Hll.out x (List.mem_of_getElem? hak)).1 (Hll.out x (List.mem_of_getElem? hak)).2 (by have := HT.out; have := Ht.out; have := Hcs.out; have := Hcl.out; unfold csI; omega) (Nat.le_trans hn1 Hi.out.tc.size)
   have Hx : Hid (fs[k]? = some x) := hak
   obtain ⟨ap, cp', ep, -⟩ := hp
   rw [ep] at hc hsub
   clear hob hak ep
   go_wp2_with fail
   refine hsub.mono ?_
   rintro e w2 ⟨u, rfl, hpost⟩
   clear hsub hc
   obtain ⟨N2, S2, hI2, ⟨d, hd, ⟨b2, hG⟩⟩, ht2⟩ := Hi.out.sub (PL.sta n1) Qm.sta hpost
   have hu := hG.is
   subst hu
   have HI2 : Hid (Inp (PL n1) Qm 30 w w2 n1 R N N2 S S2 X (.slice al k cl) L []) := hI2
   have Ht2 : Hid (S2.tot = S.tot + csF (fs.take (k + 1))) := by
    unfold csI at ht2
    have := Ht.out
    have := Hcs.out
    show _ = _
    omega
   have HD : Hid (PL n1 w2 N2 (((Value.slice al k cl).ownBlock.toList ++ X) ++ S2.F R) (.slice (some ⟨b2, 0, none⟩) d.length (d.length + 8)) d) := ⟨b2, hG⟩
   have Hdt : Hid ((L ++ [((.slice (some ⟨b2, 0, none⟩) d.length (d.length + 8) : Value), d)]).map (fun t => t.2.map (·.2)) = (fs.take (k + 1)).map (fun t => t.2.map (·.2))) := by
    show _ = _
    rw [take_snocL Hx.out, List.map_append, List.map_append, HLd.out]
    simp only [List.map_cons, List.map_nil, hd]
   have b2B : Below w2.heap.size w2 (w2.alloc (.cells #[.slice (some ⟨b2, 0, none⟩) d.length (d.length + 8)] 30)) := Below.alloc (Below.refl _ _) (Nat.le_refl _) _
   have hI3 := HI2.out.below (PL.sta n1) Qm.sta b2B
   have HI3 : Hid (Inp (PL n1) Qm 30 w (w2.alloc (.cells #[.slice (some ⟨b2, 0, none⟩) d.length (d.length + 8)] 30)) n1 R N N2 S S2 X (.slice al k cl) L []) := hI3
   have HD3 : Hid (PL n1 (w2.alloc (.cells #[.slice (some ⟨b2, 0, none⟩) d.length (d.length + 8)] 30)) N2 (((Value.slice al k cl).ownBlock.toList ++ X) ++ S2.F R) (.slice (some ⟨b2, 0, none⟩) d.length (d.length + 8)) d) := PL.sta n1 _ _ _ _ _ _ _ _ HD.out (Stp.below b2B)
   have Hrow3 : Hid ((w2.alloc (.cells #[.slice (some ⟨b2, 0, none⟩) d.length (d.length + 8)] 30)).ownsRow w.heap.size 30 1 (.slice al k cl) k (L.map (·.1))) := by
    have h9 := hI3.row
    rw [List.length_nil, Nat.add_zero, List.append_nil, HLk.out] at h9
    exact h9
   have Hsz : Hid (w.heap.size ≤ (w2.alloc (.cells #[.slice (some ⟨b2, 0, none⟩) d.length (d.length + 8)] 30)).heap.size) := hI3.tc.size
   clear hI2 hG b2B hI3 HD Hi Hrow hpost ht2 BW
   go_wp2_with (at_builtin; refine wpList_append_own_at _ rfl _ _ 23 rfl w.heap.size 30 i0 (.slice none 0 0) 1 24 Tryz.underlying23 HI.out.1 HI.out.2.1 HI.out.2.2.1 HI.out.2.2.2 rfl (by decide) _ _ _ rfl Hrow3.out ⟨w2.heap.size, 0, none⟩ 1 1 [.slice (some ⟨b2, 0, none⟩) d.length (d.length + 8)] rfl rfl (cell_one_new _ _ _) (by simp [Value.oneCell']) (by simp only [maxLen]; omega) (by omega) Hsz.out ?_; intro v' w8 hown' hgrow _ hat)
   have t8 := Kg.Touch.grown (F := (Value.slice al k cl).ownBlock.toList) hgrow (fun y hy => by rw [Option.mem_toList]; exact hy)
   have HI8 : Hid (Inp (PL n1) Qm 30 w w8 n1 R N N2 S S2 X v' (L ++ [((.slice (some ⟨b2, 0, none⟩) d.length (d.length + 8) : Value), d)]) []) := HI3.out.grow (PL.sta n1) Qm.sta t8 hat (by
    simp only [List.length_append, List.length_singleton, List.length_nil, Nat.add_zero, List.append_nil, List.map_append, List.map_cons, List.map_nil, HLk.out]
    exact hown') (fun y hy => by
     rcases List.mem_append.1 hy with h1 | h1
     ·exact .inl h1
     ·rw [List.mem_singleton] at h1
      rw [h1]
      exact .inr HD3.out) (fun j u hu => by simp at hu)
   have HL8 : Hid ((L ++ [((.slice (some ⟨b2, 0, none⟩) d.length (d.length + 8) : Value), d)]).length = k + 1) := by show _ = _; rw [List.length_append, HLk.out]; rfl
   go_roundw
   case rel => exact ⟨k + 1, N2, S2, _, by omega, by go_num, HL8, Hdt, HI8, Ht2⟩
   case measure => simp [intOf]; omega
  ·have hkn : ¬ (k : Int) < (fs.length : Int) := by omega
   have HLk2 : Hid (L.map (fun t => t.2.map (·.2)) = fs.map (fun t => t.2.map (·.2))) := by have h9 := HLd.out; rw [List.take_of_length_le (by omega)] at h9; exact h9
   have HLl : Hid (L.length = fs.length) := by have h9 := HLk.out; show _ = _; omega
   have Ht0 : Hid (S'.tot = S.tot + csF fs) := by have h9 := Ht.out; rw [List.take_of_length_le (by omega)] at h9; exact h9
   have HI0 : Hid (Inp (PL n1) Qm 30 w wr n1 R N N' S S' X (.slice al k cl) L []) := Hi
   clear Hi Hrow Ht HLd BW
   go_wp2
   go_loopw [5, 7] (fun v5 v7 w3 => ∃ (m : Nat) (ms : List Value), m ≤ 4 ∧ v7 = .int .i64 (2 * (m : Int)) ∧ Hid (ms.length = 2 * m) ∧ Hid (Inp (PL n1) Qm 30 w w3 n1 R N N' S S' X v5 L ms)) (fun _ v7 _ => 8 - (intOf v7).toNat)
   case atStart => exact ⟨0, [], Nat.zero_le _, rfl, rfl, HI0⟩
   case round =>
    obtain ⟨m, ms, hm, rfl, Hms, Hi⟩ := hrel
    clear HI0
    obtain ⟨M, hM⟩ : ∃ M, M = L.length + ms.length := ⟨_, rfl⟩
    have HM : Hid (M = L.length + ms.length ∧ M = fs.length + 2 * m) := ⟨hM, by rw [hM, HLl.out, Hms.out]⟩
    have hrow := Hi.out.row
    rw [← hM] at hrow
    obtain ⟨al2, cl2, hvl⟩ := own_slI hrow
    subst hvl
    clear hM
    by_cases hml : m < 4
    ·have hmI : 2 * (m : Int) < 8 := by omega
     have hMk := marks_Qm (F := ((Value.slice al2 M cl2).ownBlock.toList ++ X) ++ S'.F R) (N := N') Hi.out.bd.ltX Hi.out.bd.d m
     have hI3 := Hi.out.below (PL.sta n1) Qm.sta hMk.1
     have hr3 := hI3.row
     rw [← HM.out.1] at hr3
     have Hrow3 := (show Hid _ from hr3)
     have HMk := (show Hid _ from hMk)
     have HI3 := (show Hid _ from hI3)
     have Hsz := (show Hid _ from hI3.tc.size)
     have hM2 : M ≤ 2000008 := by have := HM.out.2; omega
     clear hrow hI3 hMk hr3
     go_wp2_with (at_builtin; refine wpList_append_own_at _ rfl _ _ 23 rfl w.heap.size 30 i0 (.slice none 0 0) 1 24 Tryz.underlying23 HI.out.1 HI.out.2.1 HI.out.2.2.1 HI.out.2.2.2 rfl (by decide) _ _ _ rfl Hrow3.out ⟨wr.heap.size + 1 + 1 + 1 + 1, 0, none⟩ 2 2 [.slice (some ⟨wr.heap.size + 1, 0, none⟩) 1 1, .slice (some ⟨wr.heap.size + 1 + 1 + 1, 0, none⟩) 1 1] rfl rfl HMk.out.2.2.2 (by simp [Value.oneCell']) (by simp only [maxLen]; omega) (by omega) Hsz.out ?_; intro v' w8 hown' hgrow _ hat)
     have t8 := Kg.Touch.grown (F := (Value.slice al2 M cl2).ownBlock.toList) hgrow (fun y hy => by rw [Option.mem_toList]; exact hy)
     have HI8 : Hid (Inp (PL n1) Qm 30 w w8 n1 R N N' S S' X v' L (ms ++ [.slice (some ⟨wr.heap.size + 1, 0, none⟩) 1 1, .slice (some ⟨wr.heap.size + 1 + 1 + 1, 0, none⟩) 1 1])) := HI3.out.grow (PL.sta n1) Qm.sta t8 hat (by
      have e1 : L.length + (ms ++ [(.slice (some ⟨wr.heap.size + 1, 0, none⟩) 1 1 : Value), .slice (some ⟨wr.heap.size + 1 + 1 + 1, 0, none⟩) 1 1]).length = M + 2 := by rw [List.length_append, HM.out.1]; simp; omega
      rw [e1, ← List.append_assoc]
      exact hown') (fun y hy => .inl hy) (fun j u hu => by
       by_cases hj : j < ms.length
       ·rw [List.getElem?_append_left hj] at hu
        exact .inl hu
       ·rw [List.getElem?_append_right (by omega)] at hu
        right
        have h7 := Hms.out
        match hjm : j - ms.length, hu with
        | 0, hu => simp at hu; rw [← hu, show j = 2 * m by omega]; exact HMk.out.2.1
        | 1, hu => simp at hu; rw [← hu, show j = 2 * m + 1 by omega]; exact HMk.out.2.2.1
        | i + 2, hu => simp at hu)
     have Hms8 : Hid ((ms ++ [(.slice (some ⟨wr.heap.size + 1, 0, none⟩) 1 1 : Value), .slice (some ⟨wr.heap.size + 1 + 1 + 1, 0, none⟩) 1 1]).length = 2 * (m + 1)) := by show _ = _; rw [List.length_append, Hms.out]; simp; omega
     exact ⟨⟨m + 1, _, by omega, by congr 1, Hms8, HI8⟩, by simp [intOf]; omega⟩
    ·have Hme : Hid (m = 4) := by show _ = _; omega
     have hmI : ¬ 2 * (m : Int) < 8 := by omega
     obtain ⟨Y, c3, hY⟩ := Kg.ownsRow_some hrow (by have := HM.out; omega)
     have HM8 : Hid (M = L.length + 8) := by have := HM.out; have := Hms.out; have := Hme.out; show _ = _; omega
     rw [hY] at hrow Hi ⊢
     have hcap : M ≤ c3 := own_cap hrow
     have hYl := hrow.lt Y rfl
     have hYX : Y ∉ X := fun hx => by have := (HBd.out.x Y hx).1; omega
     have hfin := Inp.fin (P := PL n1) (Q := Qm) (PL.sta n1) Qm.sta (b := Y) (c := c3) (by rw [← HM8.out]; exact Hi.out) (by have := Hms.out; have := Hme.out; omega) hYX hn1
     obtain ⟨g1, g2, g3, g4, g5, g6, g7, g8⟩ := hfin
     have hG : GotS (PL n1) wr (upN N' Y L.length) (X ++ S'.F R) n1 Y (.slice (some ⟨Y, 0, none⟩) L.length (L.length + 8)) L := ⟨rfl, g5, g3, g4, g6, g7⟩
     have he : Mk6 wr (upN N' Y L.length) (X ++ S'.F R) (.slice (some ⟨Y, 0, none⟩) M c3) := ⟨Y, c3, by rw [g6, HM8.out], g4, g3, by rw [g6, HLl.out]; omega, fun j hj => by rw [g6]; exact g8 j hj⟩
     obtain ⟨i1, hi1, hk0, hk1, hk2⟩ := info_parts infoS_roomFrames
     have HJ : Hid (Tryz.prog.info? 23 = some i1 ∧ i1.zero = some (.slice none 0 0) ∧ i1.size = 1 ∧ i1.bytes = 24) := ⟨hi1, hk0, hk1, hk2⟩
     have bB : Below wr.heap.size wr (wr.alloc (.cells #[.slice (some ⟨Y, 0, none⟩) M c3] 23)) := Below.alloc (Below.refl _ _) (Nat.le_refl _) _
     have hB := g1.below bB
     have HeB : Hid (Mk6 (wr.alloc (.cells #[.slice (some ⟨Y, 0, none⟩) M c3] 23)) (upN N' Y L.length) (X ++ S'.F R) (.slice (some ⟨Y, 0, none⟩) M c3)) := he.stp (Stp.below bB)
     have HGB : Hid (GotS (PL n1) (wr.alloc (.cells #[.slice (some ⟨Y, 0, none⟩) M c3] 23)) (upN N' Y L.length) (X ++ S'.F R) n1 Y (.slice (some ⟨Y, 0, none⟩) L.length (L.length + 8)) L) := hG.stp (PL.sta n1) (Stp.below bB)
     have HBB : Hid (Bd (wr.alloc (.cells #[.slice (some ⟨Y, 0, none⟩) M c3] 23)) n1 R (upN N' Y L.length) S' X) := hB
     have HS1 : Hid (Stp w (wr.alloc (.cells #[.slice (some ⟨Y, 0, none⟩) M c3] 23)) (X ++ S.F R) (X ++ S'.F R) N (upN N' Y L.length) ∧ Kg.Touch (S.F R) w (wr.alloc (.cells #[.slice (some ⟨Y, 0, none⟩) M c3] 23)) ∧ ∀ q, q ∈ S'.F R → q ∈ S.F R ∨ w.heap.size ≤ q) := ⟨g2.trans (Stp.below bB), Hi.out.tc.trans (Kg.Touch.of_below bB _), fun q hq => by
      rcases Hi.out.st.f q (List.mem_append_right _ hq) with h6 | h6
      ·rcases List.mem_append.1 h6 with h7 | h7
       ·exact absurd hq (g1.x q h7).2
       ·exact .inl h7
      ·exact .inr h6⟩
     have r1 : wr.cell? ⟨R, 6, none⟩ = some S'.v6 := Kg.heap_cell g1.r 6
     obtain ⟨ag, cg, eg⟩ := own_slI g1.o6
     have HRn : Hid (∀ k, S'.v6.ownBlock = some k → k ≠ R) := fun k hk e => by
      obtain ⟨c, h3⟩ := own_blk hB.o6 hk
      rw [e, hB.r] at h3
      cases h3
     have Hown : Hid ((wr.alloc (.cells #[.slice (some ⟨Y, 0, none⟩) M c3] 23)).ownsRow n1 23 1 (.slice ag S'.E6.length cg) S'.E6.length S'.E6) := by rw [← eg]; exact hB.o6
     have Hel : Hid (S'.E6.length ≤ 1000000000) := by
      have h1 := HT.out
      have h2 := Ht0.out
      have h3 : S'.E6.length ≤ S'.tot := by unfold RS.tot; omega
      show _ ≤ _
      omega
     have Heg : Hid (S'.v6 = .slice ag S'.E6.length cg) := eg
     have Hbs : Hid (n1 ≤ wr.heap.size) := Nat.le_trans hn1 Hi.out.tc.size
     rw [eg] at r1
     clear hi1 hk0 hk1 hk2 hY he bB hB eg Hi hrow g1 g2 g3 g4 g5 g6 g7 g8 hG hYl
     go_upto_region 11 with (at_builtin; refine wpList_append_own_at _ rfl _ _ 34 rfl n1 23 i1 (.slice none 0 0) 1 24 Tryz.underlying34 HJ.out.1 HJ.out.2.1 HJ.out.2.2.1 HJ.out.2.2.2 rfl (by decide) _ _ _ rfl Hown.out ⟨wr.heap.size, 0, none⟩ 1 1 [(.slice (some ⟨Y, 0, none⟩) M c3)] rfl rfl (cell_one_new _ _ _) (by simp [Value.oneCell']) (by have := Hel.out; simp [maxLen]; omega) (by have := Hel.out; omega) (by have := Hbs.out; simp; omega) ?_; intro v' w8 hown' hgrow _ hat; obtain ⟨Z, cz, hZ⟩ := Kg.ownsRow_some hown' (Nat.succ_pos _); subst hZ; have Hat : Hid ((Value.slice (some ⟨Z, 0, none⟩) (S'.E6.length + 1) cz).ownBlock = S'.v6.ownBlock ∨ (Value.slice (some ⟨Z, 0, none⟩) (S'.E6.length + 1) cz).ownBlock = some (wr.alloc (.cells #[.slice (some ⟨Y, 0, none⟩) M c3] 23)).heap.size) := (by rw [Heg.out]; exact hat); clear hat; have hblk : w8.heap[R]? = some (.cells (rmc S'.v1 S'.v2 S'.v5 S'.v6 S'.v7) 37 (0, 0)) := (hgrow.block R (Kg.heap_lt HBB.out.r) (fun e => HRn.out R (by rw [Heg.out]; exact e.symm) rfl)).trans HBB.out.r; have r8 : w8.cell? ⟨R, 6, none⟩ = some S'.v6 := Kg.heap_cell hblk 6; have f8 : w8.frozen? ⟨R, 6, none⟩ = false := Kg.heap_frozen hblk 6; clear hblk)
     have t8 : Kg.Touch S'.v6.ownBlock.toList (wr.alloc (.cells #[.slice (some ⟨Y, 0, none⟩) M c3] 23)) w8 := Kg.Touch.grown hgrow (fun y hy => by rw [Option.mem_toList, Heg.out]; exact hy)
     have hP := HBB.out.put6 HeB.out hown' t8 Hat.out
     have HP : Hid (Bd (w8.setCell ⟨R, 6, none⟩ (.slice (some ⟨Z, 0, none⟩) (S'.E6.length + 1) cz)) n1 R (upN N' Y L.length) (S'.put6 (.slice (some ⟨Z, 0, none⟩) (S'.E6.length + 1) cz) (.slice (some ⟨Y, 0, none⟩) M c3)) X ∧ Stp w (w8.setCell ⟨R, 6, none⟩ (.slice (some ⟨Z, 0, none⟩) (S'.E6.length + 1) cz)) (X ++ S.F R) (X ++ (S'.put6 (.slice (some ⟨Z, 0, none⟩) (S'.E6.length + 1) cz) (.slice (some ⟨Y, 0, none⟩) M c3)).F R) N (upN N' Y L.length) ∧ Kg.Touch (S.F R) w (w8.setCell ⟨R, 6, none⟩ (.slice (some ⟨Z, 0, none⟩) (S'.E6.length + 1) cz))) := ⟨hP.1, HS1.out.1.trans hP.2.1, HS1.out.2.1.then hP.2.2.t HS1.out.2.2⟩
     have HG : Hid (PT n1 (w8.setCell ⟨R, 6, none⟩ (.slice (some ⟨Z, 0, none⟩) (S'.E6.length + 1) cz)) (upN N' Y L.length) (X ++ (S'.put6 (.slice (some ⟨Z, 0, none⟩) (S'.E6.length + 1) cz) (.slice (some ⟨Y, 0, none⟩) M c3)).F R) (.slice (some ⟨Y, 0, none⟩) L.length (L.length + 8)) L) := ⟨Y, HGB.out.stp (PL.sta n1) hP.2.1⟩
     clear hown' hgrow Hat t8 r8 f8 r1 HJ hP HBB HeB HS1 Hown HRn Hel Heg HGB
     generalize w8.setCell ⟨R, 6, none⟩ (.slice (some ⟨Z, 0, none⟩) (S'.E6.length + 1) cz) = w9 at *
     have hM8 := HM8.out
     rw [HLl.out] at hM8
     rw [HLl.out] at HG HP
     subst hM8
     go_wp2
     go_ret
     exact ⟨_, rfl, _, _, ⟨L, HLk2.out, HG.out⟩, HP.out.1, HP.out.2.1, HP.out.2.2, by have := Ht0.out; simp only [RS.tot, RS.put6, List.length_append, List.length_singleton] at this ⊢; omega⟩
end Go.Proofs.YtckgcpoheodbcaaGreatDoor
