import Derived.Test.YtckgcpoheodbcaaDoorPRa
/-
  Images, lists with room behind them: lists of lists. (Printed by mkRM5.py.)
-/
set_option linter.unusedVariables false
set_option maxRecDepth 20000
namespace Go.Proofs.YtckgcpoheodbcaaDoor
open Go.RowKit Go.Shelf

theorem infoE_roomIntLists : (Tryd.prog.info? 24).map (fun i => (i.zero, i.size, i.bytes)) = some (some (.slice none 0 0), 1, 24) := by kernel_rfl
theorem infoS_roomIntLists : (Tryd.prog.info? 30).map (fun i => (i.zero, i.size, i.bytes)) = some (some (.slice none 0 0), 1, 24) := by kernel_rfl

theorem marks_Ql {w : World} {F : List Nat} {N : Nat → Nat} (hF : ∀ k, k ∈ F → k < w.heap.size) (hd : ∀ k, w.heap.size ≤ k → N k = 0) (m : Nat) :
    Below w.heap.size w (((w.alloc (.cells #[.int .i64 (-7701)] 3)).alloc (.cells #[.int .i64 (-7702)] 3)).alloc (.cells #[.slice (some ⟨w.heap.size, 0, none⟩) 1 1, .slice (some ⟨w.heap.size + 1, 0, none⟩) 1 1] 24)) ∧
      Ql (((w.alloc (.cells #[.int .i64 (-7701)] 3)).alloc (.cells #[.int .i64 (-7702)] 3)).alloc (.cells #[.slice (some ⟨w.heap.size, 0, none⟩) 1 1, .slice (some ⟨w.heap.size + 1, 0, none⟩) 1 1] 24)) N F (.slice (some ⟨w.heap.size, 0, none⟩) 1 1) (2 * m) ∧
      Ql (((w.alloc (.cells #[.int .i64 (-7701)] 3)).alloc (.cells #[.int .i64 (-7702)] 3)).alloc (.cells #[.slice (some ⟨w.heap.size, 0, none⟩) 1 1, .slice (some ⟨w.heap.size + 1, 0, none⟩) 1 1] 24)) N F (.slice (some ⟨w.heap.size + 1, 0, none⟩) 1 1) (2 * m + 1) ∧
      ∀ j u, [(.slice (some ⟨w.heap.size, 0, none⟩) 1 1 : Value), .slice (some ⟨w.heap.size + 1, 0, none⟩) 1 1][j]? = some u → (((w.alloc (.cells #[.int .i64 (-7701)] 3)).alloc (.cells #[.int .i64 (-7702)] 3)).alloc (.cells #[.slice (some ⟨w.heap.size, 0, none⟩) 1 1, .slice (some ⟨w.heap.size + 1, 0, none⟩) 1 1] 24)).cell? ((⟨w.heap.size + 1 + 1, 0, none⟩ : Addr).add j) = some u := by
  have b1 : Below w.heap.size w (w.alloc (.cells #[.int .i64 (-7701)] 3)) := Below.alloc (Below.refl _ _) (Nat.le_refl _) _
  have b2 := Below.alloc b1 b1.size (.cells #[.int .i64 (-7702)] 3)
  have b3 := Below.alloc b2 b2.size (.cells #[.slice (some ⟨w.heap.size, 0, none⟩) 1 1, .slice (some ⟨w.heap.size + 1, 0, none⟩) 1 1] 24)
  have c1 := Kg.heap_cell (heap_alloc_new w (.cells #[.int .i64 (-7701)] 3 (0, 0))) 0
  have c2 := Kg.heap_cell (heap_alloc_new (w.alloc (.cells #[.int .i64 (-7701)] 3)) (.cells #[.int .i64 (-7702)] 3 (0, 0))) 0
  rw [World.size_alloc] at c2
  refine ⟨b3, ⟨w.heap.size, 1, rfl, fun hk => Nat.lt_irrefl _ (hF _ hk), by simp; omega, hd _ (Nat.le_refl _), ?_⟩, ⟨w.heap.size + 1, 1, rfl, fun hk => by have := hF _ hk; omega, by simp, hd _ (by omega), ?_⟩, ?_⟩
  · have e1 : mrk (2 * m) = -7701 := by unfold mrk; rw [if_pos (by omega)]
    rw [e1]
    refine (World.cell?_of_block ?_).trans c1
    rw [Below.heap_alloc _ _ _ (by simp; omega), Below.heap_alloc _ _ _ (by simp)]
  · have e1 : mrk (2 * m + 1) = -7702 := by unfold mrk; rw [if_neg (by omega)]
    rw [e1]
    refine (World.cell?_of_block ?_).trans c2
    rw [Below.heap_alloc _ _ _ (by simp)]
  · have h9 := cell_two_new ((w.alloc (.cells #[.int .i64 (-7701)] 3)).alloc (.cells #[.int .i64 (-7702)] 3)) (.slice (some ⟨w.heap.size, 0, none⟩) 1 1) (.slice (some ⟨w.heap.size + 1, 0, none⟩) 1 1) 24
    rw [World.size_alloc, World.size_alloc] at h9
    exact h9

/-- How many lists there are. -/
def csI (l : List (Value × List Int)) : Nat := l.length
theorem csI_snoc {l : List (Value × List Int)} {k : Nat} {x : Value × List Int} (h : l[k]? = some x) : csI (l.take (k + 1)) = csI (l.take k) + 1 := by
  unfold csI
  rw [take_snocL h, List.length_append]
  rfl
theorem csI_take (l : List (Value × List Int)) (k : Nat) : csI (l.take k) ≤ csI l := by
  unfold csI
  rw [List.length_take]
  omega

set_option maxHeartbeats 8000000 in
/-- A copy with room. -/
theorem roomIntLists_any {w : World} {n1 R : Nat} {N : Nat → Nat} {S : RS} {X : List Nat} (h : Bd w n1 R N S X) (n0 : Nat) (hn : n0 ≤ n1) (v : Value) (fs : List (Value × List Int)) (hv : Frd n0 w v fs) (hl : fs.length ≤ 2000000) (hll : ∀ x, x ∈ fs → x.2.length ≤ 1073741824) (hT : S.tot + csI fs ≤ 1000000000) (hn1 : n1 ≤ w.heap.size) :
    Calls Tryd.prog 29 #[.pointer (some ⟨R, 0, none⟩), v] w fun e w' => ∃ u, e = .returned u ∧ RPost n1 R N S X w w' (csI fs + 1) (fun w' N' F' => ∃ fs', fs'.map (·.2) = fs.map (·.2) ∧ PL n1 w' N' F' u fs') := by
  obtain ⟨i0, hi0, hj0, hj1, hj2⟩ := info_parts infoE_roomIntLists
  have HI : Hid (Tryd.prog.info? 24 = some i0 ∧ i0.zero = some (.slice none 0 0) ∧ i0.size = 1 ∧ i0.bytes = 24) := ⟨hi0, hj0, hj1, hj2⟩
  have HBd : Hid (Bd w n1 R N S X) := h
  have HT : Hid (S.tot + csI fs ≤ 1000000000) := hT
  have Hv : Hid (Frd n0 w v fs) := hv
  have Hll : Hid (∀ x, x ∈ fs → x.2.length ≤ 1073741824) := hll
  obtain ⟨av, cp, rfl, -⟩ := hv
  clear hi0 hj0 hj1 hj2 h hT hll
  go_enter Tryd.func29, Tryd.ntmps29
  go_upto_region 2 with fail
  have H0 : Hid (Inp (PI n1) Ql 24 w (w.alloc (.cells #[] 24)) n1 R N N S S X (.slice (some ⟨w.heap.size, 0, none⟩) 0 0) ([] : List (Value × List Int)) []) := Inp.start HBd.out
  obtain ⟨v0, hv0⟩ : ∃ v0, v0 = Value.slice (some ⟨w.heap.size, 0, none⟩) 0 0 := ⟨_, rfl⟩
  rw [← hv0] at H0 ⊢
  clear hv0
  generalize w.alloc (.cells #[] 24) = w0 at *
  go_wp2
  go_loopw [5, 6] (fun v5 v6 wr => ∃ (k : Nat) (N' : Nat → Nat) (S' : RS) (L : List (Value × List Int)), k ≤ fs.length ∧ v6 = .int .i64 k ∧ Hid (L.length = k) ∧ Hid (L.map (·.2) = (fs.take k).map (·.2)) ∧ Hid (Inp (PI n1) Ql 24 w wr n1 R N N' S S' X v5 L []) ∧ Hid (S'.tot = S.tot + csI (fs.take k))) (fun _ v6 _ => fs.length - (intOf v6).toNat)
  case atStart => exact ⟨0, N, S, [], Nat.zero_le _, rfl, rfl, rfl, H0, rfl⟩
  case round =>
    obtain ⟨k, N', S', L, hk, rfl, HLk, HLd, Hi, Ht⟩ := hrel
    clear H0
    have hrow := Hi.out.row
    rw [List.length_nil, Nat.add_zero, List.append_nil, HLk.out] at hrow
    obtain ⟨al, cl, hvl⟩ := own_slI hrow
    subst hvl
    have Hrow : Hid (wr.ownsRow w.heap.size 24 1 (.slice al k cl) k (L.map (·.1))) := hrow
    clear hrow
    have BW : Hid (Below n0 w wr) := Hi.out.tc.below (Nat.le_trans hn hn1) (fun q hq => Nat.le_trans hn (HBd.out.lt q hq).2)
    by_cases hkl : k < fs.length
    · have hkI : (k : Int) < (fs.length : Int) := by omega
      have hak : fs[k]? = some (fs[k]'hkl) := List.getElem?_eq_getElem hkl
      generalize fs[k]'hkl = x at hak
      obtain ⟨a', c', ea, hob⟩ := Hv.out.below BW.out
      cases ea
      obtain ⟨hp, q, off, rfl, hq, hc⟩ := hob k x hak
      have Hcs : Hid (csI (fs.take (k + 1)) = csI (fs.take k) + 1) := csI_snoc hak
      have Hcl : Hid (csI (fs.take (k + 1)) ≤ csI fs) := csI_take fs (k + 1)
      have hsub := roomInts_any Hi.out.bd n0 (Nat.le_trans hn (Nat.le_trans hn1 Hi.out.tc.size)) x.1 x.2 hp (Hll.out x (List.mem_of_getElem? hak)) (by have := HT.out; have := Ht.out; have := Hcs.out; have := Hcl.out; omega) (Nat.le_trans hn1 Hi.out.tc.size)
      have Hx : Hid (fs[k]? = some x) := hak
      obtain ⟨ap, cp', ep, -⟩ := hp
      rw [ep] at hc hsub
      clear hob hak ep
      go_wp2_with fail
      refine hsub.mono ?_
      rintro e w2 ⟨u, rfl, hpost⟩
      clear hsub hc
      obtain ⟨N2, S2, hI2, ⟨b2, hG⟩, ht2⟩ := Hi.out.sub (PI.sta n1) Ql.sta hpost
      have hu := hG.is
      subst hu
      have HI2 : Hid (Inp (PI n1) Ql 24 w w2 n1 R N N2 S S2 X (.slice al k cl) L []) := hI2
      have Ht2 : Hid (S2.tot = S.tot + csI (fs.take (k + 1))) := by
        have := Ht.out
        have := Hcs.out
        show _ = _
        omega
      have HD : Hid (PI n1 w2 N2 (((Value.slice al k cl).ownBlock.toList ++ X) ++ S2.F R) (.slice (some ⟨b2, 0, none⟩) x.2.length (x.2.length + 40)) x.2) := ⟨b2, hG⟩
      have Hdt : Hid ((L ++ [((.slice (some ⟨b2, 0, none⟩) x.2.length (x.2.length + 40) : Value), x.2)]).map (·.2) = (fs.take (k + 1)).map (·.2)) := by
        show _ = _
        rw [take_snocL Hx.out, List.map_append, List.map_append, HLd.out]
        rfl
      have b2B : Below w2.heap.size w2 (w2.alloc (.cells #[.slice (some ⟨b2, 0, none⟩) x.2.length (x.2.length + 40)] 24)) := Below.alloc (Below.refl _ _) (Nat.le_refl _) _
      have hI3 := HI2.out.below (PI.sta n1) Ql.sta b2B
      have HI3 : Hid (Inp (PI n1) Ql 24 w (w2.alloc (.cells #[.slice (some ⟨b2, 0, none⟩) x.2.length (x.2.length + 40)] 24)) n1 R N N2 S S2 X (.slice al k cl) L []) := hI3
      have HD3 : Hid (PI n1 (w2.alloc (.cells #[.slice (some ⟨b2, 0, none⟩) x.2.length (x.2.length + 40)] 24)) N2 (((Value.slice al k cl).ownBlock.toList ++ X) ++ S2.F R) (.slice (some ⟨b2, 0, none⟩) x.2.length (x.2.length + 40)) x.2) := PI.sta n1 _ _ _ _ _ _ _ _ HD.out (Stp.below b2B)
      have Hrow3 : Hid ((w2.alloc (.cells #[.slice (some ⟨b2, 0, none⟩) x.2.length (x.2.length + 40)] 24)).ownsRow w.heap.size 24 1 (.slice al k cl) k (L.map (·.1))) := by
        have h9 := hI3.row
        rw [List.length_nil, Nat.add_zero, List.append_nil, HLk.out] at h9
        exact h9
      have Hsz : Hid (w.heap.size ≤ (w2.alloc (.cells #[.slice (some ⟨b2, 0, none⟩) x.2.length (x.2.length + 40)] 24)).heap.size) := hI3.tc.size
      clear hI2 hG b2B hI3 HD Hi Hrow hpost ht2 BW
      go_wp2_with (at_builtin; refine wpList_append_own_at _ rfl _ _ 30 rfl w.heap.size 24 i0 (.slice none 0 0) 1 24 Tryd.underlying30 HI.out.1 HI.out.2.1 HI.out.2.2.1 HI.out.2.2.2 rfl (by decide) _ _ _ rfl Hrow3.out ⟨w2.heap.size, 0, none⟩ 1 1 [.slice (some ⟨b2, 0, none⟩) x.2.length (x.2.length + 40)] rfl rfl (cell_one_new _ _ _) (by simp [Value.oneCell']) (by simp only [maxLen]; omega) (by omega) Hsz.out ?_; intro v' w8 hown' hgrow _ hat)
      have t8 := Kg.Touch.grown (F := (Value.slice al k cl).ownBlock.toList) hgrow (fun y hy => by rw [Option.mem_toList]; exact hy)
      have HI8 : Hid (Inp (PI n1) Ql 24 w w8 n1 R N N2 S S2 X v' (L ++ [((.slice (some ⟨b2, 0, none⟩) x.2.length (x.2.length + 40) : Value), x.2)]) []) := HI3.out.grow (PI.sta n1) Ql.sta t8 hat (by
        simp only [List.length_append, List.length_singleton, List.length_nil, Nat.add_zero, List.append_nil, List.map_append, List.map_cons, List.map_nil, HLk.out]
        exact hown') (fun y hy => by
          rcases List.mem_append.1 hy with h1 | h1
          · exact .inl h1
          · rw [List.mem_singleton] at h1
            rw [h1]
            exact .inr HD3.out) (fun j u hu => by simp at hu)
      have HL8 : Hid ((L ++ [((.slice (some ⟨b2, 0, none⟩) x.2.length (x.2.length + 40) : Value), x.2)]).length = k + 1) := by show _ = _; rw [List.length_append, HLk.out]; rfl
      go_roundw
      case rel => exact ⟨k + 1, N2, S2, _, by omega, by go_num, HL8, Hdt, HI8, Ht2⟩
      case measure => simp [intOf]; omega
    · have hkn : ¬ (k : Int) < (fs.length : Int) := by omega
      have HLk2 : Hid (L.map (·.2) = fs.map (·.2)) := by have h9 := HLd.out; rw [List.take_of_length_le (by omega)] at h9; exact h9
      have HLl : Hid (L.length = fs.length) := by have h9 := HLk.out; show _ = _; omega
      have Ht0 : Hid (S'.tot = S.tot + csI fs) := by have h9 := Ht.out; rw [List.take_of_length_le (by omega)] at h9; exact h9
      have HI0 : Hid (Inp (PI n1) Ql 24 w wr n1 R N N' S S' X (.slice al k cl) L []) := Hi
      clear Hi Hrow Ht HLd BW
      go_wp2
      go_loopw [5, 7] (fun v5 v7 w3 => ∃ (m : Nat) (ms : List Value), m ≤ 4 ∧ v7 = .int .i64 (2 * (m : Int)) ∧ Hid (ms.length = 2 * m) ∧ Hid (Inp (PI n1) Ql 24 w w3 n1 R N N' S S' X v5 L ms)) (fun _ v7 _ => 8 - (intOf v7).toNat)
      case atStart => exact ⟨0, [], Nat.zero_le _, rfl, rfl, HI0⟩
      case round =>
        obtain ⟨m, ms, hm, rfl, Hms, Hi⟩ := hrel
        clear HI0
        obtain ⟨M, hM⟩ : ∃ M, M = L.length + ms.length := ⟨_, rfl⟩
        have HM : Hid (M = L.length + ms.length ∧ M = fs.length + 2 * m) := ⟨hM, by rw [hM, HLl.out, Hms.out]⟩
        have hrow := Hi.out.row
        rw [← hM] at hrow
        obtain ⟨al2, cl2, hvl⟩ := own_slI hrow
        subst hvl
        clear hM
        by_cases hml : m < 4
        · have hmI : 2 * (m : Int) < 8 := by omega
          have hMk := marks_Ql (F := ((Value.slice al2 M cl2).ownBlock.toList ++ X) ++ S'.F R) (N := N') Hi.out.bd.ltX Hi.out.bd.d m
          have hI3 := Hi.out.below (PI.sta n1) Ql.sta hMk.1
          have hr3 := hI3.row
          rw [← HM.out.1] at hr3
          have Hrow3 := (show Hid _ from hr3)
          have HMk := (show Hid _ from hMk)
          have HI3 := (show Hid _ from hI3)
          have Hsz := (show Hid _ from hI3.tc.size)
          have hM2 : M ≤ 2000008 := by have := HM.out.2; omega
          clear hrow hI3 hMk hr3
          go_wp2_with (at_builtin; refine wpList_append_own_at _ rfl _ _ 30 rfl w.heap.size 24 i0 (.slice none 0 0) 1 24 Tryd.underlying30 HI.out.1 HI.out.2.1 HI.out.2.2.1 HI.out.2.2.2 rfl (by decide) _ _ _ rfl Hrow3.out ⟨wr.heap.size + 1 + 1, 0, none⟩ 2 2 [.slice (some ⟨wr.heap.size, 0, none⟩) 1 1, .slice (some ⟨wr.heap.size + 1, 0, none⟩) 1 1] rfl rfl HMk.out.2.2.2 (by simp [Value.oneCell']) (by simp only [maxLen]; omega) (by omega) Hsz.out ?_; intro v' w8 hown' hgrow _ hat)
          have t8 := Kg.Touch.grown (F := (Value.slice al2 M cl2).ownBlock.toList) hgrow (fun y hy => by rw [Option.mem_toList]; exact hy)
          have HI8 : Hid (Inp (PI n1) Ql 24 w w8 n1 R N N' S S' X v' L (ms ++ [.slice (some ⟨wr.heap.size, 0, none⟩) 1 1, .slice (some ⟨wr.heap.size + 1, 0, none⟩) 1 1])) := HI3.out.grow (PI.sta n1) Ql.sta t8 hat (by
            have e1 : L.length + (ms ++ [(.slice (some ⟨wr.heap.size, 0, none⟩) 1 1 : Value), .slice (some ⟨wr.heap.size + 1, 0, none⟩) 1 1]).length = M + 2 := by rw [List.length_append, HM.out.1]; simp; omega
            rw [e1, ← List.append_assoc]
            exact hown') (fun y hy => .inl hy) (fun j u hu => by
              by_cases hj : j < ms.length
              · rw [List.getElem?_append_left hj] at hu
                exact .inl hu
              · rw [List.getElem?_append_right (by omega)] at hu
                right
                have h7 := Hms.out
                match hjm : j - ms.length, hu with
                | 0, hu => simp at hu; rw [← hu, show j = 2 * m by omega]; exact HMk.out.2.1
                | 1, hu => simp at hu; rw [← hu, show j = 2 * m + 1 by omega]; exact HMk.out.2.2.1
                | i + 2, hu => simp at hu)
          have Hms8 : Hid ((ms ++ [(.slice (some ⟨wr.heap.size, 0, none⟩) 1 1 : Value), .slice (some ⟨wr.heap.size + 1, 0, none⟩) 1 1]).length = 2 * (m + 1)) := by show _ = _; rw [List.length_append, Hms.out]; simp; omega
          exact ⟨⟨m + 1, _, by omega, by congr 1, Hms8, HI8⟩, by simp [intOf]; omega⟩
        · have Hme : Hid (m = 4) := by show _ = _; omega
          have hmI : ¬ 2 * (m : Int) < 8 := by omega
          obtain ⟨Y, c3, hY⟩ := Kg.ownsRow_some hrow (by have := HM.out; omega)
          have HM8 : Hid (M = L.length + 8) := by have := HM.out; have := Hms.out; have := Hme.out; show _ = _; omega
          rw [hY] at hrow Hi ⊢
          have hcap : M ≤ c3 := own_cap hrow
          have hYl := hrow.lt Y rfl
          have hYX : Y ∉ X := fun hx => by have := (HBd.out.x Y hx).1; omega
          have hfin := Inp.fin (P := PI n1) (Q := Ql) (PI.sta n1) Ql.sta (b := Y) (c := c3) (by rw [← HM8.out]; exact Hi.out) (by have := Hms.out; have := Hme.out; omega) hYX hn1
          obtain ⟨g1, g2, g3, g4, g5, g6, g7, g8⟩ := hfin
          have hG : GotS (PI n1) wr (upN N' Y L.length) (X ++ S'.F R) n1 Y (.slice (some ⟨Y, 0, none⟩) L.length (L.length + 8)) L := ⟨rfl, g5, g3, g4, g6, g7⟩
          have he : Mk5 wr (upN N' Y L.length) (X ++ S'.F R) (.slice (some ⟨Y, 0, none⟩) M c3) := ⟨Y, c3, by rw [g6, HM8.out], g4, g3, by rw [g6, HLl.out]; omega, fun j hj => by rw [g6]; exact g8 j hj⟩
          obtain ⟨i1, hi1, hk0, hk1, hk2⟩ := info_parts infoS_roomIntLists
          have HJ : Hid (Tryd.prog.info? 30 = some i1 ∧ i1.zero = some (.slice none 0 0) ∧ i1.size = 1 ∧ i1.bytes = 24) := ⟨hi1, hk0, hk1, hk2⟩
          have bB : Below wr.heap.size wr (wr.alloc (.cells #[.slice (some ⟨Y, 0, none⟩) M c3] 30)) := Below.alloc (Below.refl _ _) (Nat.le_refl _) _
          have hB := g1.below bB
          have HeB : Hid (Mk5 (wr.alloc (.cells #[.slice (some ⟨Y, 0, none⟩) M c3] 30)) (upN N' Y L.length) (X ++ S'.F R) (.slice (some ⟨Y, 0, none⟩) M c3)) := he.stp (Stp.below bB)
          have HGB : Hid (GotS (PI n1) (wr.alloc (.cells #[.slice (some ⟨Y, 0, none⟩) M c3] 30)) (upN N' Y L.length) (X ++ S'.F R) n1 Y (.slice (some ⟨Y, 0, none⟩) L.length (L.length + 8)) L) := hG.stp (PI.sta n1) (Stp.below bB)
          have HBB : Hid (Bd (wr.alloc (.cells #[.slice (some ⟨Y, 0, none⟩) M c3] 30)) n1 R (upN N' Y L.length) S' X) := hB
          have HS1 : Hid (Stp w (wr.alloc (.cells #[.slice (some ⟨Y, 0, none⟩) M c3] 30)) (X ++ S.F R) (X ++ S'.F R) N (upN N' Y L.length) ∧ Kg.Touch (S.F R) w (wr.alloc (.cells #[.slice (some ⟨Y, 0, none⟩) M c3] 30)) ∧ ∀ q, q ∈ S'.F R → q ∈ S.F R ∨ w.heap.size ≤ q) := ⟨g2.trans (Stp.below bB), Hi.out.tc.trans (Kg.Touch.of_below bB _), fun q hq => by
            rcases Hi.out.st.f q (List.mem_append_right _ hq) with h6 | h6
            · rcases List.mem_append.1 h6 with h7 | h7
              · exact absurd hq (g1.x q h7).2
              · exact .inl h7
            · exact .inr h6⟩
          have r1 : wr.cell? ⟨R, 5, none⟩ = some S'.v5 := Kg.heap_cell g1.r 5
          obtain ⟨ag, cg, eg⟩ := own_slI g1.o5
          have HRn : Hid (∀ k, S'.v5.ownBlock = some k → k ≠ R) := fun k hk e => by
            obtain ⟨c, h3⟩ := own_blk hB.o5 hk
            rw [e, hB.r] at h3
            cases h3
          have Hown : Hid ((wr.alloc (.cells #[.slice (some ⟨Y, 0, none⟩) M c3] 30)).ownsRow n1 30 1 (.slice ag S'.E5.length cg) S'.E5.length S'.E5) := by rw [← eg]; exact hB.o5
          have Hel : Hid (S'.E5.length ≤ 1000000000) := by
            have h1 := HT.out
            have h2 := Ht0.out
            have h3 : S'.E5.length ≤ S'.tot := by unfold RS.tot; omega
            show _ ≤ _
            omega
          have Heg : Hid (S'.v5 = .slice ag S'.E5.length cg) := eg
          have Hbs : Hid (n1 ≤ wr.heap.size) := Nat.le_trans hn1 Hi.out.tc.size
          rw [eg] at r1
          clear hi1 hk0 hk1 hk2 hY he bB hB eg Hi hrow g1 g2 g3 g4 g5 g6 g7 g8 hG hYl
          go_upto_region 11 with (at_builtin; refine wpList_append_own_at _ rfl _ _ 23 rfl n1 30 i1 (.slice none 0 0) 1 24 Tryd.underlying23 HJ.out.1 HJ.out.2.1 HJ.out.2.2.1 HJ.out.2.2.2 rfl (by decide) _ _ _ rfl Hown.out ⟨wr.heap.size, 0, none⟩ 1 1 [(.slice (some ⟨Y, 0, none⟩) M c3)] rfl rfl (cell_one_new _ _ _) (by simp [Value.oneCell']) (by have := Hel.out; simp [maxLen]; omega) (by have := Hel.out; omega) (by have := Hbs.out; simp; omega) ?_; intro v' w8 hown' hgrow _ hat; obtain ⟨Z, cz, hZ⟩ := Kg.ownsRow_some hown' (Nat.succ_pos _); subst hZ; have Hat : Hid ((Value.slice (some ⟨Z, 0, none⟩) (S'.E5.length + 1) cz).ownBlock = S'.v5.ownBlock ∨ (Value.slice (some ⟨Z, 0, none⟩) (S'.E5.length + 1) cz).ownBlock = some (wr.alloc (.cells #[.slice (some ⟨Y, 0, none⟩) M c3] 30)).heap.size) := (by rw [Heg.out]; exact hat); clear hat; have hblk : w8.heap[R]? = some (.cells (rmc S'.v1 S'.v2 S'.v5 S'.v6 S'.v7) 37 (0, 0)) := (hgrow.block R (Kg.heap_lt HBB.out.r) (fun e => HRn.out R (by rw [Heg.out]; exact e.symm) rfl)).trans HBB.out.r; have r8 : w8.cell? ⟨R, 5, none⟩ = some S'.v5 := Kg.heap_cell hblk 5; have f8 : w8.frozen? ⟨R, 5, none⟩ = false := Kg.heap_frozen hblk 5; clear hblk)
          have t8 : Kg.Touch S'.v5.ownBlock.toList (wr.alloc (.cells #[.slice (some ⟨Y, 0, none⟩) M c3] 30)) w8 := Kg.Touch.grown hgrow (fun y hy => by rw [Option.mem_toList, Heg.out]; exact hy)
          have hP := HBB.out.put5 HeB.out hown' t8 Hat.out
          have HP : Hid (Bd (w8.setCell ⟨R, 5, none⟩ (.slice (some ⟨Z, 0, none⟩) (S'.E5.length + 1) cz)) n1 R (upN N' Y L.length) (S'.put5 (.slice (some ⟨Z, 0, none⟩) (S'.E5.length + 1) cz) (.slice (some ⟨Y, 0, none⟩) M c3)) X ∧ Stp w (w8.setCell ⟨R, 5, none⟩ (.slice (some ⟨Z, 0, none⟩) (S'.E5.length + 1) cz)) (X ++ S.F R) (X ++ (S'.put5 (.slice (some ⟨Z, 0, none⟩) (S'.E5.length + 1) cz) (.slice (some ⟨Y, 0, none⟩) M c3)).F R) N (upN N' Y L.length) ∧ Kg.Touch (S.F R) w (w8.setCell ⟨R, 5, none⟩ (.slice (some ⟨Z, 0, none⟩) (S'.E5.length + 1) cz))) := ⟨hP.1, HS1.out.1.trans hP.2.1, HS1.out.2.1.then hP.2.2.t HS1.out.2.2⟩
          have HG : Hid (PL n1 (w8.setCell ⟨R, 5, none⟩ (.slice (some ⟨Z, 0, none⟩) (S'.E5.length + 1) cz)) (upN N' Y L.length) (X ++ (S'.put5 (.slice (some ⟨Z, 0, none⟩) (S'.E5.length + 1) cz) (.slice (some ⟨Y, 0, none⟩) M c3)).F R) (.slice (some ⟨Y, 0, none⟩) L.length (L.length + 8)) L) := ⟨Y, HGB.out.stp (PI.sta n1) hP.2.1⟩
          clear hown' hgrow Hat t8 r8 f8 r1 HJ hP HBB HeB HS1 Hown HRn Hel Heg HGB
          generalize w8.setCell ⟨R, 5, none⟩ (.slice (some ⟨Z, 0, none⟩) (S'.E5.length + 1) cz) = w9 at *
          have hM8 := HM8.out
          rw [HLl.out] at hM8
          rw [HLl.out] at HG HP
          subst hM8
          go_wp2
          go_ret
          exact ⟨_, rfl, _, _, ⟨L, HLk2.out, HG.out⟩, HP.out.1, HP.out.2.1, HP.out.2.2, by have := Ht0.out; simp only [RS.tot, RS.put5, List.length_append, List.length_singleton] at this ⊢; omega⟩

end Go.Proofs.YtckgcpoheodbcaaDoor

/-
  Images, lists with room behind them: frames. (Printed by mkRM5.py.)
-/
set_option linter.unusedVariables false
set_option maxRecDepth 20000
namespace Go.Proofs.YtckgcpoheodbcaaDoor
open Go.RowKit Go.Shelf

theorem infoE_roomFrames : (Tryd.prog.info? 30).map (fun i => (i.zero, i.size, i.bytes)) = some (some (.slice none 0 0), 1, 24) := by kernel_rfl
theorem infoS_roomFrames : (Tryd.prog.info? 23).map (fun i => (i.zero, i.size, i.bytes)) = some (some (.slice none 0 0), 1, 24) := by kernel_rfl

theorem marks_Qm {w : World} {F : List Nat} {N : Nat → Nat} (hF : ∀ k, k ∈ F → k < w.heap.size) (hd : ∀ k, w.heap.size ≤ k → N k = 0) (m : Nat) :
    Below w.heap.size w (((((w.alloc (.cells #[.int .i64 (-7701)] 3)).alloc (.cells #[.slice (some ⟨w.heap.size, 0, none⟩) 1 1] 24)).alloc (.cells #[.int .i64 (-7702)] 3)).alloc (.cells #[.slice (some ⟨w.heap.size + 1 + 1, 0, none⟩) 1 1] 24)).alloc (.cells #[.slice (some ⟨w.heap.size + 1, 0, none⟩) 1 1, .slice (some ⟨w.heap.size + 1 + 1 + 1, 0, none⟩) 1 1] 30)) ∧
      Qm (((((w.alloc (.cells #[.int .i64 (-7701)] 3)).alloc (.cells #[.slice (some ⟨w.heap.size, 0, none⟩) 1 1] 24)).alloc (.cells #[.int .i64 (-7702)] 3)).alloc (.cells #[.slice (some ⟨w.heap.size + 1 + 1, 0, none⟩) 1 1] 24)).alloc (.cells #[.slice (some ⟨w.heap.size + 1, 0, none⟩) 1 1, .slice (some ⟨w.heap.size + 1 + 1 + 1, 0, none⟩) 1 1] 30)) N F (.slice (some ⟨w.heap.size + 1, 0, none⟩) 1 1) (2 * m) ∧
      Qm (((((w.alloc (.cells #[.int .i64 (-7701)] 3)).alloc (.cells #[.slice (some ⟨w.heap.size, 0, none⟩) 1 1] 24)).alloc (.cells #[.int .i64 (-7702)] 3)).alloc (.cells #[.slice (some ⟨w.heap.size + 1 + 1, 0, none⟩) 1 1] 24)).alloc (.cells #[.slice (some ⟨w.heap.size + 1, 0, none⟩) 1 1, .slice (some ⟨w.heap.size + 1 + 1 + 1, 0, none⟩) 1 1] 30)) N F (.slice (some ⟨w.heap.size + 1 + 1 + 1, 0, none⟩) 1 1) (2 * m + 1) ∧
      ∀ j u, [(.slice (some ⟨w.heap.size + 1, 0, none⟩) 1 1 : Value), .slice (some ⟨w.heap.size + 1 + 1 + 1, 0, none⟩) 1 1][j]? = some u → (((((w.alloc (.cells #[.int .i64 (-7701)] 3)).alloc (.cells #[.slice (some ⟨w.heap.size, 0, none⟩) 1 1] 24)).alloc (.cells #[.int .i64 (-7702)] 3)).alloc (.cells #[.slice (some ⟨w.heap.size + 1 + 1, 0, none⟩) 1 1] 24)).alloc (.cells #[.slice (some ⟨w.heap.size + 1, 0, none⟩) 1 1, .slice (some ⟨w.heap.size + 1 + 1 + 1, 0, none⟩) 1 1] 30)).cell? ((⟨w.heap.size + 1 + 1 + 1 + 1, 0, none⟩ : Addr).add j) = some u := by
  have b1 : Below w.heap.size w (w.alloc (.cells #[.int .i64 (-7701)] 3)) := Below.alloc (Below.refl _ _) (Nat.le_refl _) _
  have b2 := Below.alloc b1 b1.size (.cells #[.slice (some ⟨w.heap.size, 0, none⟩) 1 1] 24)
  have b3 := Below.alloc b2 b2.size (.cells #[.int .i64 (-7702)] 3)
  have b4 := Below.alloc b3 b3.size (.cells #[.slice (some ⟨w.heap.size + 1 + 1, 0, none⟩) 1 1] 24)
  have b5 := Below.alloc b4 b4.size (.cells #[.slice (some ⟨w.heap.size + 1, 0, none⟩) 1 1, .slice (some ⟨w.heap.size + 1 + 1 + 1, 0, none⟩) 1 1] 30)
  have c1 := Kg.heap_cell (heap_alloc_new w (.cells #[.int .i64 (-7701)] 3 (0, 0))) 0
  have c2 := Kg.heap_cell (heap_alloc_new (w.alloc (.cells #[.int .i64 (-7701)] 3)) (.cells #[.slice (some ⟨w.heap.size, 0, none⟩) 1 1] 24 (0, 0))) 0
  rw [World.size_alloc] at c2
  have c3 := Kg.heap_cell (heap_alloc_new ((w.alloc (.cells #[.int .i64 (-7701)] 3)).alloc (.cells #[.slice (some ⟨w.heap.size, 0, none⟩) 1 1] 24)) (.cells #[.int .i64 (-7702)] 3 (0, 0))) 0
  rw [World.size_alloc, World.size_alloc] at c3
  have c4 := Kg.heap_cell (heap_alloc_new (((w.alloc (.cells #[.int .i64 (-7701)] 3)).alloc (.cells #[.slice (some ⟨w.heap.size, 0, none⟩) 1 1] 24)).alloc (.cells #[.int .i64 (-7702)] 3)) (.cells #[.slice (some ⟨w.heap.size + 1 + 1, 0, none⟩) 1 1] 24 (0, 0))) 0
  rw [World.size_alloc, World.size_alloc, World.size_alloc] at c4
  have e1 : mrk (2 * m) = -7701 := by unfold mrk; rw [if_pos (by omega)]
  have e2 : mrk (2 * m + 1) = -7702 := by unfold mrk; rw [if_neg (by omega)]
  refine ⟨b5, ⟨w.heap.size + 1, 1, rfl, fun hk => by have := hF _ hk; omega, by simp <;> omega, hd _ (by omega), _, (World.cell?_of_block ?_).trans c2, ⟨w.heap.size, 1, rfl, fun hk => Nat.lt_irrefl _ (hF _ hk), by simp <;> omega, hd _ (Nat.le_refl _), ?_⟩⟩, ⟨w.heap.size + 1 + 1 + 1, 1, rfl, fun hk => by have := hF _ hk; omega, by simp, hd _ (by omega), _, (World.cell?_of_block ?_).trans c4, ⟨w.heap.size + 1 + 1, 1, rfl, fun hk => by have := hF _ hk; omega, by simp <;> omega, hd _ (by omega), ?_⟩⟩, ?_⟩
  · rw [Below.heap_alloc _ _ _ (by simp <;> omega), Below.heap_alloc _ _ _ (by simp <;> omega), Below.heap_alloc _ _ _ (by simp)]
  · rw [e1]
    refine (World.cell?_of_block ?_).trans c1
    rw [Below.heap_alloc _ _ _ (by simp <;> omega), Below.heap_alloc _ _ _ (by simp <;> omega), Below.heap_alloc _ _ _ (by simp <;> omega), Below.heap_alloc _ _ _ (by simp)]
  · rw [Below.heap_alloc _ _ _ (by simp)]
  · rw [e2]
    refine (World.cell?_of_block ?_).trans c3
    rw [Below.heap_alloc _ _ _ (by simp <;> omega), Below.heap_alloc _ _ _ (by simp)]
  · have h9 := cell_two_new ((((w.alloc (.cells #[.int .i64 (-7701)] 3)).alloc (.cells #[.slice (some ⟨w.heap.size, 0, none⟩) 1 1] 24)).alloc (.cells #[.int .i64 (-7702)] 3)).alloc (.cells #[.slice (some ⟨w.heap.size + 1 + 1, 0, none⟩) 1 1] 24)) (.slice (some ⟨w.heap.size + 1, 0, none⟩) 1 1) (.slice (some ⟨w.heap.size + 1 + 1 + 1, 0, none⟩) 1 1) 30
    rw [World.size_alloc, World.size_alloc, World.size_alloc, World.size_alloc] at h9
    exact h9

/-- How many lists there are. -/
def csF (l : List (Value × List (Value × List Int))) : Nat := (l.map (fun t => t.2.length + 1)).sum
theorem csF_snoc {l : List (Value × List (Value × List Int))} {k : Nat} {x : Value × List (Value × List Int)} (h : l[k]? = some x) : csF (l.take (k + 1)) = csF (l.take k) + (x.2.length + 1) := by
  unfold csF
  rw [take_snocL h, List.map_append, List.sum_append]
  simp
theorem csF_take (l : List (Value × List (Value × List Int))) (k : Nat) : csF (l.take k) ≤ csF l := by
  have h : csF (l.take k ++ l.drop k) = csF (l.take k) + csF (l.drop k) := by
    unfold csF
    rw [List.map_append, List.sum_append]
  rw [List.take_append_drop] at h
  omega

def PT (lo : Nat) (w : World) (N : Nat → Nat) (F : List Nat) (v : Value) (ts : List (Value × List (Value × List Int))) : Prop := ∃ b, GotS (PL lo) w N F lo b v ts
theorem PT.sta (lo : Nat) : Sta (PT lo) := fun _ _ _ _ _ _ _ _ ⟨b, h⟩ s => ⟨b, h.stp (PL.sta lo) s⟩

set_option maxHeartbeats 8000000 in
/-- A copy with room. -/
theorem roomFrames_any {w : World} {n1 R : Nat} {N : Nat → Nat} {S : RS} {X : List Nat} (h : Bd w n1 R N S X) (n0 : Nat) (hn : n0 ≤ n1) (v : Value) (fs : List (Value × List (Value × List Int))) (hv : Trd n0 w v fs) (hl : fs.length ≤ 2000000) (hll : ∀ x, x ∈ fs → (x.2.length ≤ 2000000 ∧ ∀ y, y ∈ x.2 → y.2.length ≤ 1073741824)) (hT : S.tot + csF fs ≤ 1000000000) (hn1 : n1 ≤ w.heap.size) :
    Calls Tryd.prog 12 #[.pointer (some ⟨R, 0, none⟩), v] w fun e w' => ∃ u, e = .returned u ∧ RPost n1 R N S X w w' (csF fs + 1) (fun w' N' F' => ∃ fs', fs'.map (fun t => t.2.map (·.2)) = fs.map (fun t => t.2.map (·.2)) ∧ PT n1 w' N' F' u fs') := by
  obtain ⟨i0, hi0, hj0, hj1, hj2⟩ := info_parts infoE_roomFrames
  have HI : Hid (Tryd.prog.info? 30 = some i0 ∧ i0.zero = some (.slice none 0 0) ∧ i0.size = 1 ∧ i0.bytes = 24) := ⟨hi0, hj0, hj1, hj2⟩
  have HBd : Hid (Bd w n1 R N S X) := h
  have HT : Hid (S.tot + csF fs ≤ 1000000000) := hT
  have Hv : Hid (Trd n0 w v fs) := hv
  have Hll : Hid (∀ x, x ∈ fs → (x.2.length ≤ 2000000 ∧ ∀ y, y ∈ x.2 → y.2.length ≤ 1073741824)) := hll
  obtain ⟨av, cp, rfl, -⟩ := hv
  clear hi0 hj0 hj1 hj2 h hT hll
  go_enter Tryd.func12, Tryd.ntmps12
  go_upto_region 2 with fail
  have H0 : Hid (Inp (PL n1) Qm 30 w (w.alloc (.cells #[] 30)) n1 R N N S S X (.slice (some ⟨w.heap.size, 0, none⟩) 0 0) ([] : List (Value × List (Value × List Int))) []) := Inp.start HBd.out
  obtain ⟨v0, hv0⟩ : ∃ v0, v0 = Value.slice (some ⟨w.heap.size, 0, none⟩) 0 0 := ⟨_, rfl⟩
  rw [← hv0] at H0 ⊢
  clear hv0
  generalize w.alloc (.cells #[] 30) = w0 at *
  go_wp2
  go_loopw [5, 6] (fun v5 v6 wr => ∃ (k : Nat) (N' : Nat → Nat) (S' : RS) (L : List (Value × List (Value × List Int))), k ≤ fs.length ∧ v6 = .int .i64 k ∧ Hid (L.length = k) ∧ Hid (L.map (fun t => t.2.map (·.2)) = (fs.take k).map (fun t => t.2.map (·.2))) ∧ Hid (Inp (PL n1) Qm 30 w wr n1 R N N' S S' X v5 L []) ∧ Hid (S'.tot = S.tot + csF (fs.take k))) (fun _ v6 _ => fs.length - (intOf v6).toNat)
  case atStart => exact ⟨0, N, S, [], Nat.zero_le _, rfl, rfl, rfl, H0, rfl⟩
  case round =>
    obtain ⟨k, N', S', L, hk, rfl, HLk, HLd, Hi, Ht⟩ := hrel
    clear H0
    have hrow := Hi.out.row
    rw [List.length_nil, Nat.add_zero, List.append_nil, HLk.out] at hrow
    obtain ⟨al, cl, hvl⟩ := own_slI hrow
    subst hvl
    have Hrow : Hid (wr.ownsRow w.heap.size 30 1 (.slice al k cl) k (L.map (·.1))) := hrow
    clear hrow
    have BW : Hid (Below n0 w wr) := Hi.out.tc.below (Nat.le_trans hn hn1) (fun q hq => Nat.le_trans hn (HBd.out.lt q hq).2)
    by_cases hkl : k < fs.length
    · have hkI : (k : Int) < (fs.length : Int) := by omega
      have hak : fs[k]? = some (fs[k]'hkl) := List.getElem?_eq_getElem hkl
      generalize fs[k]'hkl = x at hak
      obtain ⟨a', c', ea, hob⟩ := Hv.out.below BW.out
      cases ea
      obtain ⟨hp, q, off, rfl, hq, hc⟩ := hob k x hak
      have Hcs : Hid (csF (fs.take (k + 1)) = csF (fs.take k) + (x.2.length + 1)) := csF_snoc hak
      have Hcl : Hid (csF (fs.take (k + 1)) ≤ csF fs) := csF_take fs (k + 1)
      have hsub := roomIntLists_any Hi.out.bd n0 hn x.1 x.2 hp (Hll.out x (List.mem_of_getElem? hak)).1 (Hll.out x (List.mem_of_getElem? hak)).2 (by have := HT.out; have := Ht.out; have := Hcs.out; have := Hcl.out; unfold csI; omega) (Nat.le_trans hn1 Hi.out.tc.size)
      have Hx : Hid (fs[k]? = some x) := hak
      obtain ⟨ap, cp', ep, -⟩ := hp
      rw [ep] at hc hsub
      clear hob hak ep
      go_wp2_with fail
      refine hsub.mono ?_
      rintro e w2 ⟨u, rfl, hpost⟩
      clear hsub hc
      obtain ⟨N2, S2, hI2, ⟨d, hd, ⟨b2, hG⟩⟩, ht2⟩ := Hi.out.sub (PL.sta n1) Qm.sta hpost
      have hu := hG.is
      subst hu
      have HI2 : Hid (Inp (PL n1) Qm 30 w w2 n1 R N N2 S S2 X (.slice al k cl) L []) := hI2
      have Ht2 : Hid (S2.tot = S.tot + csF (fs.take (k + 1))) := by
        unfold csI at ht2
        have := Ht.out
        have := Hcs.out
        show _ = _
        omega
      have HD : Hid (PL n1 w2 N2 (((Value.slice al k cl).ownBlock.toList ++ X) ++ S2.F R) (.slice (some ⟨b2, 0, none⟩) d.length (d.length + 8)) d) := ⟨b2, hG⟩
      have Hdt : Hid ((L ++ [((.slice (some ⟨b2, 0, none⟩) d.length (d.length + 8) : Value), d)]).map (fun t => t.2.map (·.2)) = (fs.take (k + 1)).map (fun t => t.2.map (·.2))) := by
        show _ = _
        rw [take_snocL Hx.out, List.map_append, List.map_append, HLd.out]
        simp only [List.map_cons, List.map_nil, hd]
      have b2B : Below w2.heap.size w2 (w2.alloc (.cells #[.slice (some ⟨b2, 0, none⟩) d.length (d.length + 8)] 30)) := Below.alloc (Below.refl _ _) (Nat.le_refl _) _
      have hI3 := HI2.out.below (PL.sta n1) Qm.sta b2B
      have HI3 : Hid (Inp (PL n1) Qm 30 w (w2.alloc (.cells #[.slice (some ⟨b2, 0, none⟩) d.length (d.length + 8)] 30)) n1 R N N2 S S2 X (.slice al k cl) L []) := hI3
      have HD3 : Hid (PL n1 (w2.alloc (.cells #[.slice (some ⟨b2, 0, none⟩) d.length (d.length + 8)] 30)) N2 (((Value.slice al k cl).ownBlock.toList ++ X) ++ S2.F R) (.slice (some ⟨b2, 0, none⟩) d.length (d.length + 8)) d) := PL.sta n1 _ _ _ _ _ _ _ _ HD.out (Stp.below b2B)
      have Hrow3 : Hid ((w2.alloc (.cells #[.slice (some ⟨b2, 0, none⟩) d.length (d.length + 8)] 30)).ownsRow w.heap.size 30 1 (.slice al k cl) k (L.map (·.1))) := by
        have h9 := hI3.row
        rw [List.length_nil, Nat.add_zero, List.append_nil, HLk.out] at h9
        exact h9
      have Hsz : Hid (w.heap.size ≤ (w2.alloc (.cells #[.slice (some ⟨b2, 0, none⟩) d.length (d.length + 8)] 30)).heap.size) := hI3.tc.size
      clear hI2 hG b2B hI3 HD Hi Hrow hpost ht2 BW
      go_wp2_with (at_builtin; refine wpList_append_own_at _ rfl _ _ 23 rfl w.heap.size 30 i0 (.slice none 0 0) 1 24 Tryd.underlying23 HI.out.1 HI.out.2.1 HI.out.2.2.1 HI.out.2.2.2 rfl (by decide) _ _ _ rfl Hrow3.out ⟨w2.heap.size, 0, none⟩ 1 1 [.slice (some ⟨b2, 0, none⟩) d.length (d.length + 8)] rfl rfl (cell_one_new _ _ _) (by simp [Value.oneCell']) (by simp only [maxLen]; omega) (by omega) Hsz.out ?_; intro v' w8 hown' hgrow _ hat)
      have t8 := Kg.Touch.grown (F := (Value.slice al k cl).ownBlock.toList) hgrow (fun y hy => by rw [Option.mem_toList]; exact hy)
      have HI8 : Hid (Inp (PL n1) Qm 30 w w8 n1 R N N2 S S2 X v' (L ++ [((.slice (some ⟨b2, 0, none⟩) d.length (d.length + 8) : Value), d)]) []) := HI3.out.grow (PL.sta n1) Qm.sta t8 hat (by
        simp only [List.length_append, List.length_singleton, List.length_nil, Nat.add_zero, List.append_nil, List.map_append, List.map_cons, List.map_nil, HLk.out]
        exact hown') (fun y hy => by
          rcases List.mem_append.1 hy with h1 | h1
          · exact .inl h1
          · rw [List.mem_singleton] at h1
            rw [h1]
            exact .inr HD3.out) (fun j u hu => by simp at hu)
      have HL8 : Hid ((L ++ [((.slice (some ⟨b2, 0, none⟩) d.length (d.length + 8) : Value), d)]).length = k + 1) := by show _ = _; rw [List.length_append, HLk.out]; rfl
      go_roundw
      case rel => exact ⟨k + 1, N2, S2, _, by omega, by go_num, HL8, Hdt, HI8, Ht2⟩
      case measure => simp [intOf]; omega
    · have hkn : ¬ (k : Int) < (fs.length : Int) := by omega
      have HLk2 : Hid (L.map (fun t => t.2.map (·.2)) = fs.map (fun t => t.2.map (·.2))) := by have h9 := HLd.out; rw [List.take_of_length_le (by omega)] at h9; exact h9
      have HLl : Hid (L.length = fs.length) := by have h9 := HLk.out; show _ = _; omega
      have Ht0 : Hid (S'.tot = S.tot + csF fs) := by have h9 := Ht.out; rw [List.take_of_length_le (by omega)] at h9; exact h9
      have HI0 : Hid (Inp (PL n1) Qm 30 w wr n1 R N N' S S' X (.slice al k cl) L []) := Hi
      clear Hi Hrow Ht HLd BW
      go_wp2
      go_loopw [5, 7] (fun v5 v7 w3 => ∃ (m : Nat) (ms : List Value), m ≤ 4 ∧ v7 = .int .i64 (2 * (m : Int)) ∧ Hid (ms.length = 2 * m) ∧ Hid (Inp (PL n1) Qm 30 w w3 n1 R N N' S S' X v5 L ms)) (fun _ v7 _ => 8 - (intOf v7).toNat)
      case atStart => exact ⟨0, [], Nat.zero_le _, rfl, rfl, HI0⟩
      case round =>
        obtain ⟨m, ms, hm, rfl, Hms, Hi⟩ := hrel
        clear HI0
        obtain ⟨M, hM⟩ : ∃ M, M = L.length + ms.length := ⟨_, rfl⟩
        have HM : Hid (M = L.length + ms.length ∧ M = fs.length + 2 * m) := ⟨hM, by rw [hM, HLl.out, Hms.out]⟩
        have hrow := Hi.out.row
        rw [← hM] at hrow
        obtain ⟨al2, cl2, hvl⟩ := own_slI hrow
        subst hvl
        clear hM
        by_cases hml : m < 4
        · have hmI : 2 * (m : Int) < 8 := by omega
          have hMk := marks_Qm (F := ((Value.slice al2 M cl2).ownBlock.toList ++ X) ++ S'.F R) (N := N') Hi.out.bd.ltX Hi.out.bd.d m
          have hI3 := Hi.out.below (PL.sta n1) Qm.sta hMk.1
          have hr3 := hI3.row
          rw [← HM.out.1] at hr3
          have Hrow3 := (show Hid _ from hr3)
          have HMk := (show Hid _ from hMk)
          have HI3 := (show Hid _ from hI3)
          have Hsz := (show Hid _ from hI3.tc.size)
          have hM2 : M ≤ 2000008 := by have := HM.out.2; omega
          clear hrow hI3 hMk hr3
          go_wp2_with (at_builtin; refine wpList_append_own_at _ rfl _ _ 23 rfl w.heap.size 30 i0 (.slice none 0 0) 1 24 Tryd.underlying23 HI.out.1 HI.out.2.1 HI.out.2.2.1 HI.out.2.2.2 rfl (by decide) _ _ _ rfl Hrow3.out ⟨wr.heap.size + 1 + 1 + 1 + 1, 0, none⟩ 2 2 [.slice (some ⟨wr.heap.size + 1, 0, none⟩) 1 1, .slice (some ⟨wr.heap.size + 1 + 1 + 1, 0, none⟩) 1 1] rfl rfl HMk.out.2.2.2 (by simp [Value.oneCell']) (by simp only [maxLen]; omega) (by omega) Hsz.out ?_; intro v' w8 hown' hgrow _ hat)
          have t8 := Kg.Touch.grown (F := (Value.slice al2 M cl2).ownBlock.toList) hgrow (fun y hy => by rw [Option.mem_toList]; exact hy)
          have HI8 : Hid (Inp (PL n1) Qm 30 w w8 n1 R N N' S S' X v' L (ms ++ [.slice (some ⟨wr.heap.size + 1, 0, none⟩) 1 1, .slice (some ⟨wr.heap.size + 1 + 1 + 1, 0, none⟩) 1 1])) := HI3.out.grow (PL.sta n1) Qm.sta t8 hat (by
            have e1 : L.length + (ms ++ [(.slice (some ⟨wr.heap.size + 1, 0, none⟩) 1 1 : Value), .slice (some ⟨wr.heap.size + 1 + 1 + 1, 0, none⟩) 1 1]).length = M + 2 := by rw [List.length_append, HM.out.1]; simp; omega
            rw [e1, ← List.append_assoc]
            exact hown') (fun y hy => .inl hy) (fun j u hu => by
              by_cases hj : j < ms.length
              · rw [List.getElem?_append_left hj] at hu
                exact .inl hu
              · rw [List.getElem?_append_right (by omega)] at hu
                right
                have h7 := Hms.out
                match hjm : j - ms.length, hu with
                | 0, hu => simp at hu; rw [← hu, show j = 2 * m by omega]; exact HMk.out.2.1
                | 1, hu => simp at hu; rw [← hu, show j = 2 * m + 1 by omega]; exact HMk.out.2.2.1
                | i + 2, hu => simp at hu)
          have Hms8 : Hid ((ms ++ [(.slice (some ⟨wr.heap.size + 1, 0, none⟩) 1 1 : Value), .slice (some ⟨wr.heap.size + 1 + 1 + 1, 0, none⟩) 1 1]).length = 2 * (m + 1)) := by show _ = _; rw [List.length_append, Hms.out]; simp; omega
          exact ⟨⟨m + 1, _, by omega, by congr 1, Hms8, HI8⟩, by simp [intOf]; omega⟩
        · have Hme : Hid (m = 4) := by show _ = _; omega
          have hmI : ¬ 2 * (m : Int) < 8 := by omega
          obtain ⟨Y, c3, hY⟩ := Kg.ownsRow_some hrow (by have := HM.out; omega)
          have HM8 : Hid (M = L.length + 8) := by have := HM.out; have := Hms.out; have := Hme.out; show _ = _; omega
          rw [hY] at hrow Hi ⊢
          have hcap : M ≤ c3 := own_cap hrow
          have hYl := hrow.lt Y rfl
          have hYX : Y ∉ X := fun hx => by have := (HBd.out.x Y hx).1; omega
          have hfin := Inp.fin (P := PL n1) (Q := Qm) (PL.sta n1) Qm.sta (b := Y) (c := c3) (by rw [← HM8.out]; exact Hi.out) (by have := Hms.out; have := Hme.out; omega) hYX hn1
          obtain ⟨g1, g2, g3, g4, g5, g6, g7, g8⟩ := hfin
          have hG : GotS (PL n1) wr (upN N' Y L.length) (X ++ S'.F R) n1 Y (.slice (some ⟨Y, 0, none⟩) L.length (L.length + 8)) L := ⟨rfl, g5, g3, g4, g6, g7⟩
          have he : Mk6 wr (upN N' Y L.length) (X ++ S'.F R) (.slice (some ⟨Y, 0, none⟩) M c3) := ⟨Y, c3, by rw [g6, HM8.out], g4, g3, by rw [g6, HLl.out]; omega, fun j hj => by rw [g6]; exact g8 j hj⟩
          obtain ⟨i1, hi1, hk0, hk1, hk2⟩ := info_parts infoS_roomFrames
          have HJ : Hid (Tryd.prog.info? 23 = some i1 ∧ i1.zero = some (.slice none 0 0) ∧ i1.size = 1 ∧ i1.bytes = 24) := ⟨hi1, hk0, hk1, hk2⟩
          have bB : Below wr.heap.size wr (wr.alloc (.cells #[.slice (some ⟨Y, 0, none⟩) M c3] 23)) := Below.alloc (Below.refl _ _) (Nat.le_refl _) _
          have hB := g1.below bB
          have HeB : Hid (Mk6 (wr.alloc (.cells #[.slice (some ⟨Y, 0, none⟩) M c3] 23)) (upN N' Y L.length) (X ++ S'.F R) (.slice (some ⟨Y, 0, none⟩) M c3)) := he.stp (Stp.below bB)
          have HGB : Hid (GotS (PL n1) (wr.alloc (.cells #[.slice (some ⟨Y, 0, none⟩) M c3] 23)) (upN N' Y L.length) (X ++ S'.F R) n1 Y (.slice (some ⟨Y, 0, none⟩) L.length (L.length + 8)) L) := hG.stp (PL.sta n1) (Stp.below bB)
          have HBB : Hid (Bd (wr.alloc (.cells #[.slice (some ⟨Y, 0, none⟩) M c3] 23)) n1 R (upN N' Y L.length) S' X) := hB
          have HS1 : Hid (Stp w (wr.alloc (.cells #[.slice (some ⟨Y, 0, none⟩) M c3] 23)) (X ++ S.F R) (X ++ S'.F R) N (upN N' Y L.length) ∧ Kg.Touch (S.F R) w (wr.alloc (.cells #[.slice (some ⟨Y, 0, none⟩) M c3] 23)) ∧ ∀ q, q ∈ S'.F R → q ∈ S.F R ∨ w.heap.size ≤ q) := ⟨g2.trans (Stp.below bB), Hi.out.tc.trans (Kg.Touch.of_below bB _), fun q hq => by
            rcases Hi.out.st.f q (List.mem_append_right _ hq) with h6 | h6
            · rcases List.mem_append.1 h6 with h7 | h7
              · exact absurd hq (g1.x q h7).2
              · exact .inl h7
            · exact .inr h6⟩
          have r1 : wr.cell? ⟨R, 6, none⟩ = some S'.v6 := Kg.heap_cell g1.r 6
          obtain ⟨ag, cg, eg⟩ := own_slI g1.o6
          have HRn : Hid (∀ k, S'.v6.ownBlock = some k → k ≠ R) := fun k hk e => by
            obtain ⟨c, h3⟩ := own_blk hB.o6 hk
            rw [e, hB.r] at h3
            cases h3
          have Hown : Hid ((wr.alloc (.cells #[.slice (some ⟨Y, 0, none⟩) M c3] 23)).ownsRow n1 23 1 (.slice ag S'.E6.length cg) S'.E6.length S'.E6) := by rw [← eg]; exact hB.o6
          have Hel : Hid (S'.E6.length ≤ 1000000000) := by
            have h1 := HT.out
            have h2 := Ht0.out
            have h3 : S'.E6.length ≤ S'.tot := by unfold RS.tot; omega
            show _ ≤ _
            omega
          have Heg : Hid (S'.v6 = .slice ag S'.E6.length cg) := eg
          have Hbs : Hid (n1 ≤ wr.heap.size) := Nat.le_trans hn1 Hi.out.tc.size
          rw [eg] at r1
          clear hi1 hk0 hk1 hk2 hY he bB hB eg Hi hrow g1 g2 g3 g4 g5 g6 g7 g8 hG hYl
          go_upto_region 11 with (at_builtin; refine wpList_append_own_at _ rfl _ _ 34 rfl n1 23 i1 (.slice none 0 0) 1 24 Tryd.underlying34 HJ.out.1 HJ.out.2.1 HJ.out.2.2.1 HJ.out.2.2.2 rfl (by decide) _ _ _ rfl Hown.out ⟨wr.heap.size, 0, none⟩ 1 1 [(.slice (some ⟨Y, 0, none⟩) M c3)] rfl rfl (cell_one_new _ _ _) (by simp [Value.oneCell']) (by have := Hel.out; simp [maxLen]; omega) (by have := Hel.out; omega) (by have := Hbs.out; simp; omega) ?_; intro v' w8 hown' hgrow _ hat; obtain ⟨Z, cz, hZ⟩ := Kg.ownsRow_some hown' (Nat.succ_pos _); subst hZ; have Hat : Hid ((Value.slice (some ⟨Z, 0, none⟩) (S'.E6.length + 1) cz).ownBlock = S'.v6.ownBlock ∨ (Value.slice (some ⟨Z, 0, none⟩) (S'.E6.length + 1) cz).ownBlock = some (wr.alloc (.cells #[.slice (some ⟨Y, 0, none⟩) M c3] 23)).heap.size) := (by rw [Heg.out]; exact hat); clear hat; have hblk : w8.heap[R]? = some (.cells (rmc S'.v1 S'.v2 S'.v5 S'.v6 S'.v7) 37 (0, 0)) := (hgrow.block R (Kg.heap_lt HBB.out.r) (fun e => HRn.out R (by rw [Heg.out]; exact e.symm) rfl)).trans HBB.out.r; have r8 : w8.cell? ⟨R, 6, none⟩ = some S'.v6 := Kg.heap_cell hblk 6; have f8 : w8.frozen? ⟨R, 6, none⟩ = false := Kg.heap_frozen hblk 6; clear hblk)
          have t8 : Kg.Touch S'.v6.ownBlock.toList (wr.alloc (.cells #[.slice (some ⟨Y, 0, none⟩) M c3] 23)) w8 := Kg.Touch.grown hgrow (fun y hy => by rw [Option.mem_toList, Heg.out]; exact hy)
          have hP := HBB.out.put6 HeB.out hown' t8 Hat.out
          have HP : Hid (Bd (w8.setCell ⟨R, 6, none⟩ (.slice (some ⟨Z, 0, none⟩) (S'.E6.length + 1) cz)) n1 R (upN N' Y L.length) (S'.put6 (.slice (some ⟨Z, 0, none⟩) (S'.E6.length + 1) cz) (.slice (some ⟨Y, 0, none⟩) M c3)) X ∧ Stp w (w8.setCell ⟨R, 6, none⟩ (.slice (some ⟨Z, 0, none⟩) (S'.E6.length + 1) cz)) (X ++ S.F R) (X ++ (S'.put6 (.slice (some ⟨Z, 0, none⟩) (S'.E6.length + 1) cz) (.slice (some ⟨Y, 0, none⟩) M c3)).F R) N (upN N' Y L.length) ∧ Kg.Touch (S.F R) w (w8.setCell ⟨R, 6, none⟩ (.slice (some ⟨Z, 0, none⟩) (S'.E6.length + 1) cz))) := ⟨hP.1, HS1.out.1.trans hP.2.1, HS1.out.2.1.then hP.2.2.t HS1.out.2.2⟩
          have HG : Hid (PT n1 (w8.setCell ⟨R, 6, none⟩ (.slice (some ⟨Z, 0, none⟩) (S'.E6.length + 1) cz)) (upN N' Y L.length) (X ++ (S'.put6 (.slice (some ⟨Z, 0, none⟩) (S'.E6.length + 1) cz) (.slice (some ⟨Y, 0, none⟩) M c3)).F R) (.slice (some ⟨Y, 0, none⟩) L.length (L.length + 8)) L) := ⟨Y, HGB.out.stp (PL.sta n1) hP.2.1⟩
          clear hown' hgrow Hat t8 r8 f8 r1 HJ hP HBB HeB HS1 Hown HRn Hel Heg HGB
          generalize w8.setCell ⟨R, 6, none⟩ (.slice (some ⟨Z, 0, none⟩) (S'.E6.length + 1) cz) = w9 at *
          have hM8 := HM8.out
          rw [HLl.out] at hM8
          rw [HLl.out] at HG HP
          subst hM8
          go_wp2
          go_ret
          exact ⟨_, rfl, _, _, ⟨L, HLk2.out, HG.out⟩, HP.out.1, HP.out.2.1, HP.out.2.2, by have := Ht0.out; simp only [RS.tot, RS.put6, List.length_append, List.length_singleton] at this ⊢; omega⟩

end Go.Proofs.YtckgcpoheodbcaaDoor

/-
  Images, lists with room behind them: objects while they are made.
-/
set_option linter.unusedVariables false
set_option maxRecDepth 20000
namespace Go.Proofs.YtckgcpoheodbcaaDoor
open Go.RowKit Go.Shelf

theorem step_append_own_at {P : Program} {ops : Array Oper} {o : Oper} {a : Act} {w : World} {K : Act → World → Prop} {Q : Exit → Act → World → Prop} {E : Prop}
    (hgd : o.guard = none) (s x : Operand) (t : TypeId) (ho : o.op = .call { callee := .builtin .append, args := #[s, x], argTypes := #[t, t] })
    (base : Nat) (e : TypeId) (i : TypeInfo) (z : Value) (size bytes : Nat) (ht : P.underlying t = some (.slice e)) (hi : P.info? e = some i) (hz : i.zero = some z)
    (hsize : i.size = size) (hby : i.bytes = bytes) (hzs : z.cells.size = size) (hsz : 0 < size)
    (v : Value) (n : Nat) (xs : List Value) (hs : a.eval s = v) (hown : w.ownsRow base e size v n xs)
    (ad : Addr) (m c : Nat) (news : List Value) (hx : a.eval x = .slice (some ad) m c) (hl : news.length = m * size) (hnews : ∀ j u, news[j]? = some u → w.cell? (ad.add j) = some u) (h1 : ∀ u ∈ news, u.oneCell' = true)
    (h63 : n + m ≤ maxLen) (hbytes : (n + m) * bytes ≤ 140737488355328) (hbase : base ≤ w.heap.size)
    (h : ∀ v' w', w'.ownsRow base e size v' (n + m) (xs ++ news) → w.grownBy w' v.ownBlock → (v'.ownBlock = v.ownBlock ∨ v'.ownBlock = some w.heap.size) → K (a.put o.dst v') w') :
    if Region.wanted o (yielded ops a.tmps) = true then Oper.wp P o a w K Q else E := by
  have hw : Region.wanted o (yielded ops a.tmps) = true := by simp [Region.wanted, hgd]
  rw [if_pos hw]
  obtain ⟨v', w', hr, h2, h3, h4, h5⟩ := run_append_own_at (P := P) w base t o.type e i z size bytes ht hi hz hsize hby hzs hsz v n xs hown ad m c news hl hnews h1 h63 hbytes hbase
  unfold Oper.wp
  simp [execOp, ho, resolve, invoke, builtin, hs, hx, hr, Result.andThen]
  exact h v' w' h2 h3 h5

/-- The cells of objects; of marks. -/
def oflat (L : List OL) : List Value := L.flatMap (fun x => x.cells.toList)
def mflat (m : Nat) : List Value := (List.range m).flatMap (fun j => (mob j).toList)

theorem oflat_len (L : List OL) : (oflat L).length = L.length * 5 := by
  induction L with
  | nil => rfl
  | cons x r ih => simp only [oflat, List.flatMap_cons, List.length_append, List.length_cons] at ih ⊢; rw [ih]; simp; omega
theorem mflat_len (m : Nat) : (mflat m).length = m * 5 := by
  induction m with
  | zero => rfl
  | succ m ih => simp only [mflat, List.range_succ, List.flatMap_append, List.length_append] at ih ⊢; rw [ih]; simp; omega
theorem oflat_snoc (L : List OL) (x : OL) : oflat (L ++ [x]) = oflat L ++ x.cells.toList := by simp [oflat]
theorem mflat_two (m : Nat) : mflat (2 * m + 2) = mflat (2 * m) ++ ((mob (2 * m)).toList ++ (mob (2 * m + 1)).toList) := by
  unfold mflat
  rw [show 2 * m + 2 = (2 * m + 1) + 1 by omega, List.range_succ, List.range_succ]
  simp
theorem oflat_at {L : List OL} {i : Nat} {x : OL} (h : L[i]? = some x) (j : Nat) (hj : j < 5) : (oflat L)[i * 5 + j]? = x.cells[j]? := by
  induction L generalizing i with
  | nil => simp at h
  | cons y r ih =>
    have hl : (y.cells.toList).length = 5 := rfl
    simp only [oflat, List.flatMap_cons]
    cases i with
    | zero =>
      simp at h
      subst h
      rw [List.getElem?_append_left (by rw [hl]; omega), Nat.zero_mul, Nat.zero_add, Array.getElem?_toList]
    | succ i =>
      rw [List.getElem?_append_right (by rw [hl]; omega), hl, show (i + 1) * 5 + j - 5 = i * 5 + j by omega]
      exact ih (by simpa using h)
theorem mflat_at {m i : Nat} (h : i < m) (j : Nat) (hj : j < 5) : (mflat m)[i * 5 + j]? = (mob i)[j]? := by
  induction m with
  | zero => omega
  | succ m ih =>
    have hs : mflat (m + 1) = mflat m ++ (mob m).toList := by simp [mflat, List.range_succ]
    rw [hs]
    by_cases e : i < m
    · rw [List.getElem?_append_left (by rw [mflat_len]; omega)]
      exact ih e
    · have e2 : i = m := by omega
      subst e2
      rw [List.getElem?_append_right (by rw [mflat_len]; omega), mflat_len, Nat.add_sub_cancel_left, Array.getElem?_toList]

theorem cells_new (w : World) (cs : Array Value) (t : TypeId) : ∀ j u, cs.toList[j]? = some u → (w.alloc (.cells cs t)).cell? ((⟨w.heap.size, 0, none⟩ : Addr).add j) = some u := by
  intro j u hu
  have e := cell_of_row _ _ j _ _ _ (heap_alloc_new w (.cells cs t (0, 0)))
  rw [Addr.add_lit, Nat.zero_add, e, ← Array.getElem?_toList]
  exact hu

/-- An object's lists. -/
def PO (lo : Nat) (w : World) (N : Nat → Nat) (F : List Nat) (x : OL) : Prop := (∃ b, Got w N F lo b .i64 x.vp x.o.ps) ∧ ∃ b, Got w N F lo b .u64 x.vr (x.o.rs.map Int.ofNat)
theorem PO.stp {lo : Nat} {w w' : World} {N N' : Nat → Nat} {F F' : List Nat} {x : OL} (h : PO lo w N F x) (s : Stp w w' F F' N N') : PO lo w' N' F' x := by
  obtain ⟨⟨b, h1⟩, b', h2⟩ := h
  exact ⟨⟨b, h1.stp s⟩, b', h2.stp s⟩

/-- Objects while they are made. -/
structure Ino (w0 w : World) (n1 R : Nat) (N0 N : Nat → Nat) (S0 S : RS) (X : List Nat) (v : Value) (L : List OL) (m : Nat) : Prop where
  row : w.ownsRow w0.heap.size 62 5 v (L.length + m) (oflat L ++ mflat m)
  bd : Bd w n1 R N S (v.ownBlock.toList ++ X)
  st : Stp w0 w (X ++ S0.F R) ((v.ownBlock.toList ++ X) ++ S.F R) N0 N
  tc : Kg.Touch (S0.F R) w0 w
  p : ∀ x, x ∈ L → PO n1 w N ((v.ownBlock.toList ++ X) ++ S.F R) x

section
variable {w0 w w' : World} {n1 R : Nat} {N0 N N' : Nat → Nat} {S0 S S' : RS} {X : List Nat} {v : Value} {L : List OL} {m : Nat}

theorem Ino.start (h : Bd w0 n1 R N0 S0 X) : Ino w0 (w0.alloc (.cells #[] 62)) n1 R N0 N0 S0 S0 X (.slice (some ⟨w0.heap.size, 0, none⟩) 0 0) [] 0 := by
  have b : Below w0.heap.size w0 (w0.alloc (.cells #[] 62)) := Below.alloc (Below.refl _ _) (Nat.le_refl _) _
  have hsz : (w0.alloc (.cells #[] 62)).heap.size = w0.heap.size + 1 := by simp
  have hm := h.move (N' := N0) (X' := [w0.heap.size] ++ X) (Kg.Touch.of_below b X) (fun k hk => by
    rcases List.mem_append.1 hk with h1 | h1
    · simp at h1; exact ⟨by omega, .inr (by omega)⟩
    · exact ⟨Nat.lt_of_lt_of_le (h.x k h1).1 b.size, .inl h1⟩) (fun _ _ _ => rfl) (fun k hk => h.d k (Nat.le_trans b.size hk)) (fun k hk => by
    rcases List.mem_append.1 hk with h1 | h1
    · simp at h1; exact h.d k (by omega)
    · exact h.z k (List.mem_append_left _ h1))
  exact ⟨⟨by simp [oflat, mflat], .inr ⟨_, 0, #[], rfl, Nat.le_refl _, heap_alloc_new w0 _, by simp, by simp [maxLen], by simp, by simp [oflat, mflat]⟩⟩, hm.1, hm.2, Kg.Touch.of_below b _, fun x hx => by simp at hx⟩

/-- A call that makes other lists. -/
theorem Ino.sub (h : Ino w0 w n1 R N0 N S0 S X v L m) {d : Nat} {G : World → (Nat → Nat) → List Nat → Prop} (k : RPost n1 R N S (v.ownBlock.toList ++ X) w w' d G) :
    ∃ N' S', Ino w0 w' n1 R N0 N' S0 S' X v L m ∧ G w' N' ((v.ownBlock.toList ++ X) ++ S'.F R) ∧ S'.tot = S.tot + d ∧ Stp w w' ((v.ownBlock.toList ++ X) ++ S.F R) ((v.ownBlock.toList ++ X) ++ S'.F R) N N' := by
  obtain ⟨N', S', h1, h2, h3, h4, h5⟩ := k
  refine ⟨N', S', ⟨Kg.row_keep2 h.row h4 (fun q hq => (h.bd.x q (List.mem_append_left _ (by rw [Option.mem_toList]; exact hq))).2), h2, h.st.trans h3, h.tc.then h4 (fun q hq => ?_), fun x hx => (h.p x hx).stp h3⟩, h1, h5, h3⟩
  rcases h.st.f q (List.mem_append_right _ hq) with h6 | h6
  · rcases List.mem_append.1 h6 with h7 | h7
    · exact absurd hq (h.bd.x q (List.mem_append_right _ h7)).2
    · exact .inl h7
  · exact .inr h6

/-- Blocks that are laid. -/
theorem Ino.below (h : Ino w0 w n1 R N0 N S0 S X v L m) (b : Below w.heap.size w w') : Ino w0 w' n1 R N0 N S0 S X v L m := by
  have s := (h.bd.laid b (fun _ _ => rfl) (fun k hk => h.bd.d k (Nat.le_trans b.size hk))).2
  exact ⟨Kg.row_keep2 h.row (Kg.Touch.of_below b []) (fun _ _ => by simp), h.bd.below b, h.st.trans s, h.tc.trans (Kg.Touch.of_below b _), fun x hx => (h.p x hx).stp s⟩

/-- Something is laid behind it. -/
theorem Ino.grow (h : Ino w0 w n1 R N0 N S0 S X v L m) {v' : Value} {L' : List OL} {m' : Nat} (t : Kg.Touch v.ownBlock.toList w w') (hat : v'.ownBlock = v.ownBlock ∨ v'.ownBlock = some w.heap.size) (hrow : w'.ownsRow w0.heap.size 62 5 v' (L'.length + m') (oflat L' ++ mflat m'))
    (hL : ∀ x, x ∈ L' → x ∈ L ∨ PO n1 w N ((v.ownBlock.toList ++ X) ++ S.F R) x) : Ino w0 w' n1 R N0 N S0 S X v' L' m' := by
  have hm := h.bd.move (N' := N) (X' := v'.ownBlock.toList ++ X) (t.mono (fun k hk => .inl (List.mem_append_left _ hk))) (fun k hk => by
    rcases List.mem_append.1 hk with h1 | h1
    · rw [Option.mem_toList] at h1
      refine ⟨(hrow.lt k h1).2, ?_⟩
      rcases hat with e | e
      · exact .inl (List.mem_append_left _ (by rw [Option.mem_toList, ← e]; exact h1))
      · rw [e] at h1
        exact .inr (Nat.le_of_eq (Option.some.inj h1))
    · exact ⟨Nat.lt_of_lt_of_le (h.bd.x k (List.mem_append_right _ h1)).1 t.size, .inl (List.mem_append_right _ h1)⟩) (fun _ _ _ => rfl) (fun k hk => h.bd.d k (Nat.le_trans t.size hk)) (fun k hk => by
    rcases List.mem_append.1 hk with h1 | h1
    · rw [Option.mem_toList] at h1
      rcases hat with e | e
      · exact h.bd.z k (List.mem_append_left _ (List.mem_append_left _ (by rw [Option.mem_toList, ← e]; exact h1)))
      · rw [e] at h1
        exact h.bd.d k (Nat.le_of_eq (Option.some.inj h1))
    · exact h.bd.z k (List.mem_append_left _ (List.mem_append_right _ h1)))
  refine ⟨hrow, hm.1, h.st.trans hm.2, h.tc.then t (fun q hq => ?_), fun x hx => ?_⟩
  · rw [Option.mem_toList] at hq
    exact .inr (h.row.lt q hq).1
  · rcases hL x hx with h1 | h1
    · exact (h.p x h1).stp hm.2
    · exact h1.stp hm.2

/-- It is whole. -/
theorem Ino.fin {b c : Nat} (h : Ino w0 w n1 R N0 N S0 S X (.slice (some ⟨b, 0, none⟩) (L.length + 8) c) L 8) (hX : b ∉ X) (hn1 : n1 ≤ w0.heap.size) :
    Bd w n1 R (upN N b (L.length * 5)) S X ∧ Stp w0 w (X ++ S0.F R) (X ++ S.F R) N0 (upN N b (L.length * 5)) ∧ b < w.heap.size ∧ b ∉ X ++ S.F R ∧ n1 ≤ b ∧ upN N b (L.length * 5) b = L.length * 5 ∧
      (∀ (i : Nat) x, L[i]? = some x → (∀ j, j < 5 → w.cell? ⟨b, i * 5 + j, none⟩ = x.cells[j]?) ∧ PO n1 w (upN N b (L.length * 5)) (X ++ S.F R) x) ∧ (∀ j, j < 8 → ∀ i, i < 5 → w.cell? ⟨b, (L.length + j) * 5 + i, none⟩ = (mob j)[i]?) ∧ ∀ f, w.frozen? ⟨b, f, none⟩ = false := by
  have hb : (Value.slice (some ⟨b, 0, none⟩) (L.length + 8) c).ownBlock = some b := rfl
  have hbl := h.row.lt b hb
  have hbF : b ∉ S.F R := (h.bd.x b (List.mem_append_left _ (by rw [Option.mem_toList]; exact hb))).2
  have hm := h.bd.move (N' := upN N b (L.length * 5)) (X' := X) (Kg.Touch.refl _ _) (fun k hk => ⟨(h.bd.x k (List.mem_append_right _ hk)).1, .inl (List.mem_append_right _ hk)⟩) (fun k hk hx => by
    unfold upN
    rw [if_neg (fun (e : k = b) => hx (List.mem_append_left _ (by rw [e]; simp [Value.ownBlock])))]) (fun k hk => by
    unfold upN
    rw [if_neg (by omega)]
    exact h.bd.d k hk) (fun k hk => by
    unfold upN
    rw [if_neg (fun (e : k = b) => hX (e ▸ hk))]
    exact h.bd.z k (List.mem_append_left _ (List.mem_append_right _ hk)))
  have hc : ∀ (j : Nat) u, (oflat L ++ mflat 8)[j]? = some u → w.cell? ⟨b, j, none⟩ = some u := fun j u hu => by
    have h9 := h.row.cells (g := b) rfl j u hu
    rw [Addr.add_lit, Nat.zero_add] at h9
    exact h9
  refine ⟨hm.1, h.st.trans hm.2, hbl.2, fun hmem => (List.mem_append.1 hmem).elim hX hbF, Nat.le_trans hn1 hbl.1, by unfold upN; rw [if_pos rfl], fun i x hx => ⟨fun j hj => ?_, (h.p x (List.mem_of_getElem? hx)).stp hm.2⟩, fun j hj i hi => ?_, fun f => ?_⟩
  · have hil := (List.getElem?_eq_some_iff.1 hx).1
    have hu : x.cells[j]? = some (x.cells[j]'(by simpa using hj)) := Array.getElem?_eq_getElem (by simpa using hj)
    rw [hu]
    refine hc _ _ ?_
    rw [List.getElem?_append_left (by rw [oflat_len]; omega), oflat_at hx j hj, hu]
  · have hu : (mob j)[i]? = some ((mob j)[i]'(by simpa using hi)) := Array.getElem?_eq_getElem (by simpa using hi)
    rw [hu]
    refine hc _ _ ?_
    rw [List.getElem?_append_right (by rw [oflat_len]; omega), oflat_len, show (L.length + j) * 5 + i - L.length * 5 = j * 5 + i by omega, mflat_at hj i hi, hu]
  · rcases h.row.2 with ⟨h1, h2⟩ | ⟨g', cap', cur, h1, h2, h3, h4⟩
    · cases h1
    · cases h1
      exact Kg.heap_frozen h3 f

end

end Go.Proofs.YtckgcpoheodbcaaDoor

