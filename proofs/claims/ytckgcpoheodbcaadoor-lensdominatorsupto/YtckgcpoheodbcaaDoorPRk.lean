import Derived.Test.YtckgcpoheodbcaaDoorPRb
/-
  Images, lists with room behind them: objects.
-/
set_option linter.unusedVariables false
set_option maxRecDepth 20000
namespace Go.Proofs.YtckgcpoheodbcaaDoor
open Go.RowKit Go.Shelf

theorem infoO : (Tryd.prog.info? 62).map (fun i => (i.zero, i.size, i.bytes)) = some (some (.agg (ocs 0 0 0 (.slice none 0 0) (.slice none 0 0))), 5, 72) := by kernel_rfl
theorem infoOS : (Tryd.prog.info? 22).map (fun i => (i.zero, i.size, i.bytes)) = some (some (.slice none 0 0), 1, 24) := by kernel_rfl

theorem info_parts5 {o : Option TypeInfo} {z : Option Value} {s b : Nat} (h : o.map (fun i => (i.zero, i.size, i.bytes)) = some (z, s, b)) : ∃ i, o = some i ∧ i.zero = z ∧ i.size = s ∧ i.bytes = b := by
  cases o with
  | none => cases h
  | some i =>
    simp only [Option.map_some, Option.some.injEq, Prod.mk.injEq] at h
    exact ⟨i, rfl, h.1, h.2.1, h.2.2⟩

/-- Objects in a block of their own. -/
structure GotO (w : World) (N : Nat → Nat) (F : List Nat) (lo b : Nat) (v : Value) (L : List OL) : Prop where
  is : v = .slice (some ⟨b, 0, none⟩) L.length (L.length + 8)
  l : lo ≤ b
  lt : b < w.heap.size
  f : b ∉ F
  n : N b = L.length * 5
  c : ∀ (i : Nat) x, L[i]? = some x → (∀ j, j < 5 → w.cell? ⟨b, i * 5 + j, none⟩ = x.cells[j]?) ∧ PO lo w N F x
  fr : ∀ f, w.frozen? ⟨b, f, none⟩ = false

theorem GotO.stp {w w' : World} {N N' : Nat → Nat} {F F' : List Nat} {lo b : Nat} {v : Value} {L : List OL} (h : GotO w N F lo b v L) (s : Stp w w' F F' N N') : GotO w' N' F' lo b v L :=
  ⟨h.is, h.l, s.lt h.lt, s.out h.lt h.f, by rw [s.n b h.lt h.f]; exact h.n, fun i x hx => ⟨fun j hj => by rw [s.cell h.lt h.f]; exact (h.c i x hx).1 j hj, (h.c i x hx).2.stp s⟩, fun f => by rw [s.frozen h.lt h.f]; exact h.fr f⟩

set_option maxHeartbeats 8000000 in
/-- A copy with room. -/
theorem roomObjects_any {w : World} {n1 R : Nat} {N : Nat → Nat} {S : RS} {X : List Nat} (h : Bd w n1 R N S X) (n0 : Nat) (hn : n0 ≤ n1) (v : Value) (os : List OL) (hv : Ord n0 w v os) (hl : os.length ≤ 2000000) (hll : ∀ x, x ∈ os → x.o.ps.length ≤ 1073741824 ∧ x.o.rs.length ≤ 1073741824) (hT : S.tot + 2 * os.length ≤ 1000000000) (hn1 : n1 ≤ w.heap.size) :
    Calls Tryd.prog 11 #[.pointer (some ⟨R, 0, none⟩), v] w fun e w' => ∃ u, e = .returned u ∧ RPost n1 R N S X w w' (2 * os.length + 1) (fun w' N' F' => ∃ L b, L.map (·.o) = os.map (·.o) ∧ GotO w' N' F' n1 b u L) := by
  obtain ⟨i0, hi0, hj0, hj1, hj2⟩ := info_parts5 infoO
  have HI : Hid (Tryd.prog.info? 62 = some i0 ∧ i0.zero = some (.agg (ocs 0 0 0 (.slice none 0 0) (.slice none 0 0))) ∧ i0.size = 5 ∧ i0.bytes = 72) := ⟨hi0, hj0, hj1, hj2⟩
  have HBd : Hid (Bd w n1 R N S X) := h
  have HT : Hid (S.tot + 2 * os.length ≤ 1000000000) := hT
  have Hv : Hid (Ord n0 w v os) := hv
  have Hll : Hid (∀ x, x ∈ os → x.o.ps.length ≤ 1073741824 ∧ x.o.rs.length ≤ 1073741824) := hll
  obtain ⟨av, cp, rfl, -⟩ := hv
  clear hi0 hj0 hj1 hj2 h hT hll
  go_enter Tryd.func11, Tryd.ntmps11
  go_upto_region 2 with fail
  have H0 : Hid (Ino w (w.alloc (.cells #[] 62)) n1 R N N S S X (.slice (some ⟨w.heap.size, 0, none⟩) 0 0) [] 0) := Ino.start HBd.out
  obtain ⟨v0, hv0⟩ : ∃ v0, v0 = Value.slice (some ⟨w.heap.size, 0, none⟩) 0 0 := ⟨_, rfl⟩
  rw [← hv0] at H0 ⊢
  clear hv0
  generalize w.alloc (.cells #[] 62) = w0 at *
  go_wp2
  go_loopw [5, 6] (fun v5 v6 wr => ∃ (k : Nat) (N' : Nat → Nat) (S' : RS) (L : List OL), k ≤ os.length ∧ v6 = .int .i64 k ∧ Hid (L.length = k) ∧ Hid (L.map (·.o) = (os.take k).map (·.o)) ∧ Hid (Ino w wr n1 R N N' S S' X v5 L 0) ∧ Hid (S'.tot = S.tot + 2 * k)) (fun _ v6 _ => os.length - (intOf v6).toNat)
  case atStart => exact ⟨0, N, S, [], Nat.zero_le _, rfl, rfl, rfl, H0, rfl⟩
  case round =>
    obtain ⟨k, N', S', L, hk, rfl, HLk, HLd, Hi, Ht⟩ := hrel
    clear H0
    have hrow := Hi.out.row
    rw [Nat.add_zero, HLk.out, show mflat 0 = [] from rfl, List.append_nil] at hrow
    obtain ⟨al, cl, hvl⟩ := own_slI hrow
    subst hvl
    have Hrow : Hid (wr.ownsRow w.heap.size 62 5 (.slice al k cl) k (oflat L)) := hrow
    clear hrow
    have BW : Hid (Below n0 w wr) := Hi.out.tc.below (Nat.le_trans hn hn1) (fun q hq => Nat.le_trans hn (HBd.out.lt q hq).2)
    by_cases hkl : k < os.length
    · have hkI : (k : Int) < (os.length : Int) := by omega
      have hak : os[k]? = some (os[k]'hkl) := List.getElem?_eq_getElem hkl
      generalize os[k]'hkl = x at hak
      have HCell : Hid (∀ w', Below n0 w w' → ∃ q off, av = some ⟨q, off, none⟩ ∧ ∀ j, j < 5 → w'.cell? ⟨q, off + k * 5 + j, none⟩ = x.cells[j]?) := fun w' b' => by
        obtain ⟨a', c', ea, hob⟩ := Hv.out.below b'
        cases ea
        obtain ⟨_, _, q, off, e, _, hc⟩ := hob k x hak
        exact ⟨q, off, e, hc⟩
      obtain ⟨a', c', ea, hob⟩ := Hv.out.below BW.out
      cases ea
      obtain ⟨hp, hr, q, off, rfl, hq, hc⟩ := hob k x hak
      have Hx : Hid (os[k]? = some x) := hak
      have Hxl := Hll.out x (List.mem_of_getElem? hak)
      have Hdw : Hid (Ino w wr.drew n1 R N N' S S' X (.slice al k cl) L 0) := Hi.out.below (Below.refl _ _).drew
      have hsub := roomInts_any Hdw.out.bd n0 (Nat.le_trans hn (Nat.le_trans hn1 Hdw.out.tc.size)) x.vp x.o.ps (hp.below (Below.refl _ _).drew) Hxl.1 (by have := HT.out; have := Ht.out; omega) (Nat.le_trans hn1 Hdw.out.tc.size)
      have HW : Hid (∀ w2 N2 S2, Ino w w2 n1 R N N2 S S2 X (.slice al k cl) L 0 → S2.tot = S'.tot + 1 → Calls Tryd.prog 28 #[.pointer (some ⟨R, 0, none⟩), x.vr] w2 fun e w' => ∃ u, e = .returned u ∧ RPost n1 R N2 S2 ((Value.slice al k cl).ownBlock.toList ++ X) w2 w' 1 (fun w' N' F' => ∃ b, Got w' N' F' n1 b .u64 u (x.o.rs.map Int.ofNat))) := fun w2 N2 S2 hI2 ht2 => by
        have b' : Below n0 w w2 := hI2.tc.below (Nat.le_trans hn hn1) (fun q hq => Nat.le_trans hn (HBd.out.lt q hq).2)
        obtain ⟨_, _, _, hob'⟩ := Hv.out.below b'
        exact roomWords_any hI2.bd n0 (Nat.le_trans hn (Nat.le_trans hn1 hI2.tc.size)) x.vr _ (hob' k x hak).2.1 (by rw [List.length_map]; exact Hxl.2) (by have := HT.out; have := Ht.out; omega) (Nat.le_trans hn1 hI2.tc.size)
      have HC5 : Hid (∀ w', Below n0 w w' → w'.cell? ⟨q, off + k * 5, none⟩ = some (.int .u64 x.o.ser) ∧ w'.cell? ⟨q, off + k * 5 + 1, none⟩ = some (.int .i64 x.o.kind) ∧ w'.cell? ⟨q, off + k * 5 + 2, none⟩ = some (.int .i64 x.o.site) ∧ w'.cell? ⟨q, off + k * 5 + 3, none⟩ = some x.vp ∧ w'.cell? ⟨q, off + k * 5 + 4, none⟩ = some x.vr) := fun w' b' => by
        obtain ⟨_, _, e, hc'⟩ := HCell.out w' b'
        cases e
        exact ⟨hc' 0 (by omega), hc' 1 (by omega), hc' 2 (by omega), hc' 3 (by omega), hc' 4 (by omega)⟩
      have HBn : Hid (∀ w2 N2 S2, Ino w w2 n1 R N N2 S S2 X (.slice al k cl) L 0 → Below n0 w w2) := fun w2 N2 S2 hI2 => hI2.tc.below (Nat.le_trans hn hn1) (fun q hq => Nat.le_trans hn (HBd.out.lt q hq).2)
      obtain ⟨ap, cap', ep, -⟩ := hp
      obtain ⟨ar, car, er, -⟩ := hr
      have hrl : (x.o.rs.map Int.ofNat).length = x.o.rs.length := List.length_map _
      rw [hrl] at er
      rw [ep, er] at HC5
      rw [ep] at hsub
      rw [er] at HW
      obtain ⟨c0, c1, c2, c3, c4⟩ := HC5.out wr BW.out
      clear hob hak ep er hrl hc HCell Hi BW
      go_upto_region 5 with fail
      go_region_held3 (fun w' => w'.cell? ⟨q, off + k * 5, none⟩ = some (.int .u64 x.o.ser) ∧ w'.cell? ⟨q, off + k * 5 + 1, none⟩ = some (.int .i64 x.o.kind) ∧ w'.cell? ⟨q, off + k * 5 + 2, none⟩ = some (.int .i64 x.o.site) ∧ w'.cell? ⟨q, off + k * 5 + 3, none⟩ = some (.slice ap x.o.ps.length cap') ∧ w'.cell? ⟨q, off + k * 5 + 4, none⟩ = some (.slice ar x.o.rs.length car)) (first | (exact And.intro ‹_› (And.intro ‹_› (And.intro ‹_› (And.intro ‹_› ‹_›)))) | go_keep) (first | (go_at_call 13; refine hsub.mono ?_; rintro e w2 ⟨u, rfl, hpost⟩; obtain ⟨N2, S2, hI2, ⟨b2, hG2⟩, ht2, hs2⟩ := Hdw.out.sub hpost; have hu2 := hG2.is; subst hu2; obtain ⟨d0, d1, d2, d3, d4⟩ := HC5.out w2 (HBn.out _ _ _ hI2); have hw := HW.out w2 N2 S2 hI2 ht2) | (go_at_call 28; refine hw.mono ?_; rintro e w3 ⟨u3, rfl, hpost3⟩; obtain ⟨N3, S3, hI3, ⟨b3, hG3⟩, ht3, hs3⟩ := hI2.sub hpost3; have hu3 := hG3.is; rw [List.length_map] at hu3; subst hu3; have hB3 : Below w3.heap.size w3 (w3.alloc (.cells (ocs x.o.ser x.o.kind x.o.site (.slice (some ⟨b2, 0, none⟩) x.o.ps.length (x.o.ps.length + 40)) (.slice (some ⟨b3, 0, none⟩) x.o.rs.length (x.o.rs.length + 40))) 62)) := Below.alloc (Below.refl _ _) (Nat.le_refl _) _; have hI4 := hI3.below hB3; have hr4 := hI4.row; rw [Nat.add_zero, HLk.out, show mflat 0 = [] from rfl, List.append_nil] at hr4; obtain ⟨e0, e1, e2, e3, e4⟩ := HC5.out w3 (HBn.out _ _ _ hI3)) | (refine step_append_own_at rfl (.tmp 15) (.tmp 46) 22 rfl w.heap.size 62 i0 (.agg (ocs 0 0 0 (.slice none 0 0) (.slice none 0 0))) 5 72 Tryd.underlying22 HI.out.1 HI.out.2.1 HI.out.2.2.1 HI.out.2.2.2 rfl (by decide) (.slice al k cl) k (oflat L) rfl hr4 ⟨w3.heap.size, 0, none⟩ 1 1 (ocs x.o.ser x.o.kind x.o.site (.slice (some ⟨b2, 0, none⟩) x.o.ps.length (x.o.ps.length + 40)) (.slice (some ⟨b3, 0, none⟩) x.o.rs.length (x.o.rs.length + 40))).toList rfl rfl (cells_new w3 (ocs x.o.ser x.o.kind x.o.site (.slice (some ⟨b2, 0, none⟩) x.o.ps.length (x.o.ps.length + 40)) (.slice (some ⟨b3, 0, none⟩) x.o.rs.length (x.o.rs.length + 40))) 62) (by simp [Value.oneCell']) (by simp only [maxLen]; omega) (by omega) hI4.tc.size ?_; intro v' w8 hown' hgrow hat; have t8 := Kg.Touch.grown (F := (Value.slice al k cl).ownBlock.toList) hgrow (fun y hy => by rw [Option.mem_toList]; exact hy); obtain ⟨f0, f1, f2, f3, f4⟩ := HC5.out w8 ((HBn.out _ _ _ hI4).trans (t8.below (Nat.le_trans (Nat.le_trans hn hn1) hI4.tc.size) (fun y hy => by rw [Option.mem_toList] at hy; exact Nat.le_trans (Nat.le_trans hn hn1) (hr4.lt y hy).1)))))
      have hpo : PO n1 (w3.alloc (.cells (ocs x.o.ser x.o.kind x.o.site (.slice (some ⟨b2, 0, none⟩) x.o.ps.length (x.o.ps.length + 40)) (.slice (some ⟨b3, 0, none⟩) x.o.rs.length (x.o.rs.length + 40))) 62)) N3 (((Value.slice al k cl).ownBlock.toList ++ X) ++ S3.F R) (⟨x.o, .slice (some ⟨b2, 0, none⟩) x.o.ps.length (x.o.ps.length + 40), .slice (some ⟨b3, 0, none⟩) x.o.rs.length (x.o.rs.length + 40)⟩ : OL) := PO.stp ⟨⟨b2, hG2.stp hs3⟩, b3, by have h9 := hG3; exact h9⟩ (Stp.below hB3)
      have HI8 : Hid (Ino w w8 n1 R N N3 S S3 X v' (L ++ [(⟨x.o, .slice (some ⟨b2, 0, none⟩) x.o.ps.length (x.o.ps.length + 40), .slice (some ⟨b3, 0, none⟩) x.o.rs.length (x.o.rs.length + 40)⟩ : OL)]) 0) := hI4.grow t8 hat (by
        rw [oflat_snoc, show mflat 0 = [] from rfl, List.append_nil, Nat.add_zero, List.length_append, HLk.out]
        exact hown') (fun y hy => by
          rcases List.mem_append.1 hy with h1 | h1
          · exact .inl h1
          · rw [List.mem_singleton] at h1
            rw [h1]
            exact .inr hpo)
      have HL8 : Hid ((L ++ [(⟨x.o, .slice (some ⟨b2, 0, none⟩) x.o.ps.length (x.o.ps.length + 40), .slice (some ⟨b3, 0, none⟩) x.o.rs.length (x.o.rs.length + 40)⟩ : OL)]).length = k + 1) := by show _ = _; rw [List.length_append, HLk.out]; rfl
      have Hd8 : Hid ((L ++ [(⟨x.o, .slice (some ⟨b2, 0, none⟩) x.o.ps.length (x.o.ps.length + 40), .slice (some ⟨b3, 0, none⟩) x.o.rs.length (x.o.rs.length + 40)⟩ : OL)]).map (·.o) = (os.take (k + 1)).map (·.o)) := by
        show _ = _
        rw [take_snocL Hx.out, List.map_append, List.map_append, HLd.out]
        rfl
      have Ht8 : Hid (S3.tot = S.tot + 2 * (k + 1)) := by have := Ht.out; show _ = _; omega
      clear hown' hgrow hat t8 hpo hI4 hr4 hB3 hI3 hG3 hs3 ht3 hG2 hs2 ht2 hI2 hpost hpost3 hsub hw HW Hdw
      go_wp2
      go_roundw
      case rel => exact ⟨k + 1, N3, S3, _, by omega, by go_num, HL8, Hd8, HI8, Ht8⟩
      case measure => simp [intOf]; omega
    · have hkn : ¬ (k : Int) < (os.length : Int) := by omega
      have HLk2 : Hid (L.map (·.o) = os.map (·.o)) := by have h9 := HLd.out; rw [List.take_of_length_le (by omega)] at h9; exact h9
      have HLl : Hid (L.length = os.length) := by have h9 := HLk.out; show _ = _; omega
      have Ht0 : Hid (S'.tot = S.tot + 2 * os.length) := by have h9 := Ht.out; show _ = _; omega
      have HI0 : Hid (Ino w wr n1 R N N' S S' X (.slice al k cl) L 0) := Hi
      clear Hi Hrow Ht HLd BW
      go_wp2
      go_loopw [5, 7] (fun v5 v7 w3 => ∃ (m : Nat), m ≤ 4 ∧ v7 = .int .i64 (2 * (m : Int)) ∧ Hid (Ino w w3 n1 R N N' S S' X v5 L (2 * m))) (fun _ v7 _ => 8 - (intOf v7).toNat)
      case atStart => exact ⟨0, Nat.zero_le _, rfl, HI0⟩
      case round =>
        obtain ⟨m, hm, rfl, Hi⟩ := hrel
        clear HI0
        obtain ⟨M, hM⟩ : ∃ M, M = L.length + 2 * m := ⟨_, rfl⟩
        have HM : Hid (M = L.length + 2 * m ∧ M = os.length + 2 * m) := ⟨hM, by rw [hM, HLl.out]⟩
        have hrow := Hi.out.row
        rw [← hM] at hrow
        obtain ⟨al2, cl2, hvl⟩ := own_slI hrow
        subst hvl
        clear hM
        by_cases hml : m < 4
        · have hmI : 2 * (m : Int) < 8 := by omega
          have bM : Below wr.heap.size wr (wr.alloc (.cells #[.int .u64 0, .int .i64 (-7701), .int .i64 0, .slice none 0 0, .slice none 0 0, .int .u64 0, .int .i64 (-7702), .int .i64 0, .slice none 0 0, .slice none 0 0] 62)) := Below.alloc (Below.refl _ _) (Nat.le_refl _) _
          have hI3 := Hi.out.below bM
          have hr3 := hI3.row
          rw [← HM.out.1] at hr3
          have Hrow3 := (show Hid _ from hr3)
          have HI3 := (show Hid _ from hI3)
          have Hsz := (show Hid _ from hI3.tc.size)
          have hM2 : M ≤ 2000008 := by have := HM.out.2; omega
          clear hrow hI3 hr3 bM
          go_wp2_with (at_builtin; refine wpList_append_own_at _ rfl _ _ 22 rfl w.heap.size 62 i0 (.agg (ocs 0 0 0 (.slice none 0 0) (.slice none 0 0))) 5 72 Tryd.underlying22 HI.out.1 HI.out.2.1 HI.out.2.2.1 HI.out.2.2.2 rfl (by decide) _ _ _ rfl Hrow3.out ⟨wr.heap.size, 0, none⟩ 2 2 (#[.int .u64 0, .int .i64 (-7701), .int .i64 0, .slice none 0 0, .slice none 0 0, .int .u64 0, .int .i64 (-7702), .int .i64 0, .slice none 0 0, .slice none 0 0] : Array Value).toList rfl rfl (cells_new wr _ _) (by simp [Value.oneCell']) (by simp only [maxLen]; omega) (by omega) Hsz.out ?_; intro v' w8 hown' hgrow _ hat)
          have t8 := Kg.Touch.grown (F := (Value.slice al2 M cl2).ownBlock.toList) hgrow (fun y hy => by rw [Option.mem_toList]; exact hy)
          have HI8 : Hid (Ino w w8 n1 R N N' S S' X v' L (2 * (m + 1))) := HI3.out.grow t8 hat (by
            have e1 : mrk (2 * m) = -7701 := by unfold mrk; rw [if_pos (by omega)]
            have e2 : mrk (2 * m + 1) = -7702 := by unfold mrk; rw [if_neg (by omega)]
            have e3 : L.length + 2 * (m + 1) = M + 2 := by have := HM.out.1; omega
            have e4 : (mob (2 * m)).toList ++ (mob (2 * m + 1)).toList = (#[.int .u64 0, .int .i64 (-7701), .int .i64 0, .slice none 0 0, .slice none 0 0, .int .u64 0, .int .i64 (-7702), .int .i64 0, .slice none 0 0, .slice none 0 0] : Array Value).toList := by
              show (ocs 0 (mrk (2 * m)) 0 (.slice none 0 0) (.slice none 0 0)).toList ++ (ocs 0 (mrk (2 * m + 1)) 0 (.slice none 0 0) (.slice none 0 0)).toList = _
              rw [e1, e2]
              rfl
            rw [e3, show 2 * (m + 1) = 2 * m + 2 by omega, mflat_two, e4, ← List.append_assoc]
            exact hown') (fun y hy => .inl hy)
          exact ⟨⟨m + 1, by omega, by congr 1, HI8⟩, by simp [intOf]; omega⟩
        · have Hme : Hid (m = 4) := by show _ = _; omega
          have hmI : ¬ 2 * (m : Int) < 8 := by omega
          obtain ⟨Y, c3, hY⟩ := Kg.ownsRow_some hrow (by have := HM.out; omega)
          have HM8 : Hid (M = L.length + 8) := by have := HM.out; have := Hme.out; show _ = _; omega
          rw [hY] at hrow Hi ⊢
          have hcap : M ≤ c3 := own_cap hrow
          have hYl := hrow.lt Y rfl
          have hYX : Y ∉ X := fun hx => by have := (HBd.out.x Y hx).1; omega
          have hfin := Ino.fin (b := Y) (c := c3) (by rw [← HM8.out]; have h9 := Hi.out; rw [show 2 * m = 8 by have := Hme.out; omega] at h9; exact h9) hYX hn1
          obtain ⟨g1, g2, g3, g4, g5, g6, g7, g8, g9⟩ := hfin
          have hG : GotO wr (upN N' Y (L.length * 5)) (X ++ S'.F R) n1 Y (.slice (some ⟨Y, 0, none⟩) L.length (L.length + 8)) L := ⟨rfl, g5, g3, g4, g6, g7, g9⟩
          have he : Mk7 wr (upN N' Y (L.length * 5)) (X ++ S'.F R) (.slice (some ⟨Y, 0, none⟩) M c3) := ⟨Y, c3, L.length, by rw [HM8.out], g6, g4, g3, by rw [g6, HLl.out]; omega, g8⟩
          obtain ⟨i1, hi1, hk0, hk1, hk2⟩ := info_parts infoOS
          have HJ : Hid (Tryd.prog.info? 22 = some i1 ∧ i1.zero = some (.slice none 0 0) ∧ i1.size = 1 ∧ i1.bytes = 24) := ⟨hi1, hk0, hk1, hk2⟩
          have bB : Below wr.heap.size wr (wr.alloc (.cells #[.slice (some ⟨Y, 0, none⟩) M c3] 22)) := Below.alloc (Below.refl _ _) (Nat.le_refl _) _
          have hB := g1.below bB
          have HeB : Hid (Mk7 (wr.alloc (.cells #[.slice (some ⟨Y, 0, none⟩) M c3] 22)) (upN N' Y (L.length * 5)) (X ++ S'.F R) (.slice (some ⟨Y, 0, none⟩) M c3)) := he.stp (Stp.below bB)
          have HGB : Hid (GotO (wr.alloc (.cells #[.slice (some ⟨Y, 0, none⟩) M c3] 22)) (upN N' Y (L.length * 5)) (X ++ S'.F R) n1 Y (.slice (some ⟨Y, 0, none⟩) L.length (L.length + 8)) L) := hG.stp (Stp.below bB)
          have HBB : Hid (Bd (wr.alloc (.cells #[.slice (some ⟨Y, 0, none⟩) M c3] 22)) n1 R (upN N' Y (L.length * 5)) S' X) := hB
          have HS1 : Hid (Stp w (wr.alloc (.cells #[.slice (some ⟨Y, 0, none⟩) M c3] 22)) (X ++ S.F R) (X ++ S'.F R) N (upN N' Y (L.length * 5)) ∧ Kg.Touch (S.F R) w (wr.alloc (.cells #[.slice (some ⟨Y, 0, none⟩) M c3] 22)) ∧ ∀ q, q ∈ S'.F R → q ∈ S.F R ∨ w.heap.size ≤ q) := ⟨g2.trans (Stp.below bB), Hi.out.tc.trans (Kg.Touch.of_below bB _), fun q hq => by
            rcases Hi.out.st.f q (List.mem_append_right _ hq) with h6 | h6
            · rcases List.mem_append.1 h6 with h7 | h7
              · exact absurd hq (g1.x q h7).2
              · exact .inl h7
            · exact .inr h6⟩
          have r1 : wr.cell? ⟨R, 7, none⟩ = some S'.v7 := Kg.heap_cell g1.r 7
          obtain ⟨ag, cg, eg⟩ := own_slI g1.o7
          have HRn : Hid (∀ k, S'.v7.ownBlock = some k → k ≠ R) := fun k hk e => by
            obtain ⟨c, h3⟩ := own_blk hB.o7 hk
            rw [e, hB.r] at h3
            cases h3
          have Hown : Hid ((wr.alloc (.cells #[.slice (some ⟨Y, 0, none⟩) M c3] 22)).ownsRow n1 22 1 (.slice ag S'.E7.length cg) S'.E7.length S'.E7) := by rw [← eg]; exact hB.o7
          have Hel : Hid (S'.E7.length ≤ 1000000000) := by
            have h1 := HT.out
            have h2 := Ht0.out
            have h3 : S'.E7.length ≤ S'.tot := by unfold RS.tot; omega
            show _ ≤ _
            omega
          have Heg : Hid (S'.v7 = .slice ag S'.E7.length cg) := eg
          have Hbs : Hid (n1 ≤ wr.heap.size) := Nat.le_trans hn1 Hi.out.tc.size
          rw [eg] at r1
          clear hi1 hk0 hk1 hk2 hY he bB hB eg Hi hrow g1 g2 g3 g4 g5 g6 g7 g8 g9 hG hYl
          go_upto_region 11 with (at_builtin; refine wpList_append_own_at _ rfl _ _ 35 rfl n1 22 i1 (.slice none 0 0) 1 24 Tryd.underlying35 HJ.out.1 HJ.out.2.1 HJ.out.2.2.1 HJ.out.2.2.2 rfl (by decide) _ _ _ rfl Hown.out ⟨wr.heap.size, 0, none⟩ 1 1 [(.slice (some ⟨Y, 0, none⟩) M c3)] rfl rfl (cell_one_new _ _ _) (by simp [Value.oneCell']) (by have := Hel.out; simp [maxLen]; omega) (by have := Hel.out; omega) (by have := Hbs.out; simp; omega) ?_; intro v' w8 hown' hgrow _ hat; obtain ⟨Z, cz, hZ⟩ := Kg.ownsRow_some hown' (Nat.succ_pos _); subst hZ; have Hat : Hid ((Value.slice (some ⟨Z, 0, none⟩) (S'.E7.length + 1) cz).ownBlock = S'.v7.ownBlock ∨ (Value.slice (some ⟨Z, 0, none⟩) (S'.E7.length + 1) cz).ownBlock = some (wr.alloc (.cells #[.slice (some ⟨Y, 0, none⟩) M c3] 22)).heap.size) := (by rw [Heg.out]; exact hat); clear hat; have hblk : w8.heap[R]? = some (.cells (rmc S'.v1 S'.v2 S'.v5 S'.v6 S'.v7) 37 (0, 0)) := (hgrow.block R (Kg.heap_lt HBB.out.r) (fun e => HRn.out R (by rw [Heg.out]; exact e.symm) rfl)).trans HBB.out.r; have r8 : w8.cell? ⟨R, 7, none⟩ = some S'.v7 := Kg.heap_cell hblk 7; have f8 : w8.frozen? ⟨R, 7, none⟩ = false := Kg.heap_frozen hblk 7; clear hblk)
          have t8 : Kg.Touch S'.v7.ownBlock.toList (wr.alloc (.cells #[.slice (some ⟨Y, 0, none⟩) M c3] 22)) w8 := Kg.Touch.grown hgrow (fun y hy => by rw [Option.mem_toList, Heg.out]; exact hy)
          have hP := HBB.out.put7 HeB.out hown' t8 Hat.out
          have HP : Hid (Bd (w8.setCell ⟨R, 7, none⟩ (.slice (some ⟨Z, 0, none⟩) (S'.E7.length + 1) cz)) n1 R (upN N' Y (L.length * 5)) (S'.put7 (.slice (some ⟨Z, 0, none⟩) (S'.E7.length + 1) cz) (.slice (some ⟨Y, 0, none⟩) M c3)) X ∧ Stp w (w8.setCell ⟨R, 7, none⟩ (.slice (some ⟨Z, 0, none⟩) (S'.E7.length + 1) cz)) (X ++ S.F R) (X ++ (S'.put7 (.slice (some ⟨Z, 0, none⟩) (S'.E7.length + 1) cz) (.slice (some ⟨Y, 0, none⟩) M c3)).F R) N (upN N' Y (L.length * 5)) ∧ Kg.Touch (S.F R) w (w8.setCell ⟨R, 7, none⟩ (.slice (some ⟨Z, 0, none⟩) (S'.E7.length + 1) cz))) := ⟨hP.1, HS1.out.1.trans hP.2.1, HS1.out.2.1.then hP.2.2.t HS1.out.2.2⟩
          have HG : Hid (GotO (w8.setCell ⟨R, 7, none⟩ (.slice (some ⟨Z, 0, none⟩) (S'.E7.length + 1) cz)) (upN N' Y (L.length * 5)) (X ++ (S'.put7 (.slice (some ⟨Z, 0, none⟩) (S'.E7.length + 1) cz) (.slice (some ⟨Y, 0, none⟩) M c3)).F R) n1 Y (.slice (some ⟨Y, 0, none⟩) L.length (L.length + 8)) L) := HGB.out.stp hP.2.1
          clear hown' hgrow Hat t8 r8 f8 r1 HJ hP HBB HeB HS1 Hown HRn Hel Heg HGB
          generalize w8.setCell ⟨R, 7, none⟩ (.slice (some ⟨Z, 0, none⟩) (S'.E7.length + 1) cz) = w9 at *
          have hM8 := HM8.out
          rw [HLl.out] at hM8
          rw [HLl.out] at HG HP
          subst hM8
          go_wp2
          go_ret
          exact ⟨_, rfl, _, _, ⟨L, HLk2.out, _, HG.out⟩, HP.out.1, HP.out.2.1, HP.out.2.2, by have := Ht0.out; simp only [RS.tot, RS.put7, List.length_append, List.length_singleton] at this ⊢; omega⟩

end Go.Proofs.YtckgcpoheodbcaaDoor

/-
  Images, a graph with room behind its lists.
-/
set_option linter.unusedVariables false
set_option maxRecDepth 20000
namespace Go.Proofs.YtckgcpoheodbcaaDoor
open Go.RowKit Go.Shelf

/-- A graph whose lists lie in blocks of their own. -/
structure Lent (w : World) (N : Nat → Nat) (F : List Nat) (lo : Nat) (vo vs vh vr vq : Value) (os : List OL) (ts : List (Value × List (Value × List Int))) (g : Im.Gr) : Prop where
  o : ∃ b, GotO w N F lo b vo os
  s : PT lo w N F vs ts
  h : PI lo w N F vh g.hs
  r : PI lo w N F vr g.rg
  q : PI lo w N F vq g.qu
  eo : g.obs = os.map (·.o)
  es : g.slots = ts.map (fun t => t.2.map (·.2))

theorem Lent.stp {w w' : World} {N N' : Nat → Nat} {F F' : List Nat} {lo : Nat} {vo vs vh vr vq : Value} {os : List OL} {ts : List (Value × List (Value × List Int))} {g : Im.Gr} (h : Lent w N F lo vo vs vh vr vq os ts g) (s : Stp w w' F F' N N') : Lent w' N' F' lo vo vs vh vr vq os ts g := by
  obtain ⟨⟨b, h1⟩, h2, h3, h4, h5, h6, h7⟩ := h
  exact ⟨⟨b, h1.stp s⟩, PT.sta lo _ _ _ _ _ _ _ _ h2 s, PI.sta lo _ _ _ _ _ _ _ _ h3 s, PI.sta lo _ _ _ _ _ _ _ _ h4 s, PI.sta lo _ _ _ _ _ _ _ _ h5 s, h6, h7⟩

/-- What may be copied. -/
structure Sml (os : List OL) (ts : List (Value × List (Value × List Int))) (g : Im.Gr) : Prop where
  o : os.length ≤ 2000000
  ol : ∀ x, x ∈ os → x.o.ps.length ≤ 1073741824 ∧ x.o.rs.length ≤ 1073741824
  t : ts.length ≤ 2000000
  tl : ∀ x, x ∈ ts → (x.2.length ≤ 2000000 ∧ ∀ y, y ∈ x.2 → y.2.length ≤ 1073741824)
  tc : csF ts ≤ 100000000
  h : g.hs.length ≤ 1073741824
  r : g.rg.length ≤ 1073741824
  q : g.qu.length ≤ 1073741824

set_option maxHeartbeats 8000000 in
/-- A copy of a graph, its lists with room. -/
theorem roomGraph_any {w : World} {n1 R : Nat} {N : Nat → Nat} {S : RS} {X : List Nat} (h : Bd w n1 R N S X) (n0 : Nat) (hn : n0 ≤ n1) (hn1 : n1 ≤ w.heap.size) (vo vs vh vr vq : Value) (os : List OL) (ts : List (Value × List (Value × List Int))) (g : Im.Gr) (hg : Grd n0 w vo vs vh vr vq os ts g) (hs : Sml os ts g) (hT : S.tot ≤ 100000000) :
    Calls Tryd.prog 4 #[.pointer (some ⟨R, 0, none⟩), .agg (gcs vo vs vh vr vq g.next)] w fun e w' => ∃ vo' vs' vh' vr' vq', e = .returned (.agg (gcs vo' vs' vh' vr' vq' g.next)) ∧ RPost n1 R N S X w w' (2 * os.length + csF ts + 5) (fun w' N' F' => ∃ os' ts', Lent w' N' F' n1 vo' vs' vh' vr' vq' os' ts' g) := by
  have HBd : Hid (Bd w n1 R N S X) := h
  have HT : Hid (S.tot ≤ 100000000) := hT
  have Hs : Hid (Sml os ts g) := hs
  have Hg : Hid (Grd n0 w vo vs vh vr vq os ts g) := hg
  obtain ⟨aa, ac, rfl, -⟩ := hg.ob
  obtain ⟨ba, bc, rfl, -⟩ := hg.sl
  obtain ⟨ca, cc, rfl, -, -⟩ := hg.hs
  obtain ⟨da, dc, rfl, -, -⟩ := hg.rg
  obtain ⟨ea, ec, rfl, -, -⟩ := hg.qu
  have l1 : Below w.heap.size w (w.alloc (.cells (gcs (.slice aa os.length ac) (.slice ba ts.length bc) (.slice ca g.hs.length cc) (.slice da g.rg.length dc) (.slice ea g.qu.length ec) g.next) 27)) := Below.alloc (Below.refl _ _) (Nat.le_refl _) _
  have l2 := Below.alloc l1 l1.size (.cells (gcs (.slice none 0 0) (.slice none 0 0) (.slice none 0 0) (.slice none 0 0) (.slice none 0 0) 0) 27)
  have hy := ((Below.heap_alloc (w.alloc (.cells (gcs (.slice aa os.length ac) (.slice ba ts.length bc) (.slice ca g.hs.length cc) (.slice da g.rg.length dc) (.slice ea g.qu.length ec) g.next) 27)) (.cells (gcs (.slice none 0 0) (.slice none 0 0) (.slice none 0 0) (.slice none 0 0) (.slice none 0 0) 0) 27) w.heap.size (by simp)).trans (heap_alloc_new w (.cells (gcs (.slice aa os.length ac) (.slice ba ts.length bc) (.slice ca g.hs.length cc) (.slice da g.rg.length dc) (.slice ea g.qu.length ec) g.next) 27 (0, 0))))
  have hz := (heap_alloc_new (w.alloc (.cells (gcs (.slice aa os.length ac) (.slice ba ts.length bc) (.slice ca g.hs.length cc) (.slice da g.rg.length dc) (.slice ea g.qu.length ec) g.next) 27)) (.cells (gcs (.slice none 0 0) (.slice none 0 0) (.slice none 0 0) (.slice none 0 0) (.slice none 0 0) 0) 27 (0, 0)))
  rw [World.size_alloc] at hz
  have hws : ((w.alloc (.cells (gcs (.slice aa os.length ac) (.slice ba ts.length bc) (.slice ca g.hs.length cc) (.slice da g.rg.length dc) (.slice ea g.qu.length ec) g.next) 27)).alloc (.cells (gcs (.slice none 0 0) (.slice none 0 0) (.slice none 0 0) (.slice none 0 0) (.slice none 0 0) 0) 27)).heap.size = w.heap.size + 2 := by simp
  have Hl : Hid (Below w.heap.size w ((w.alloc (.cells (gcs (.slice aa os.length ac) (.slice ba ts.length bc) (.slice ca g.hs.length cc) (.slice da g.rg.length dc) (.slice ea g.qu.length ec) g.next) 27)).alloc (.cells (gcs (.slice none 0 0) (.slice none 0 0) (.slice none 0 0) (.slice none 0 0) (.slice none 0 0) 0) 27))) := l2
  clear l1 l2 h hT hs hg
  go_enter Tryd.func4, Tryd.ntmps4
  go_upto_region 1 with fail
  rw [show (#[.slice none 0 0, .slice none 0 0, .slice none 0 0, .slice none 0 0, .slice none 0 0, .int .u64 0] : Array Value) = gcs (.slice none 0 0) (.slice none 0 0) (.slice none 0 0) (.slice none 0 0) (.slice none 0 0) 0 from rfl]
  generalize (w.alloc (.cells (gcs (.slice aa os.length ac) (.slice ba ts.length bc) (.slice ca g.hs.length cc) (.slice da g.rg.length dc) (.slice ea g.qu.length ec) g.next) 27)).alloc (.cells (gcs (.slice none 0 0) (.slice none 0 0) (.slice none 0 0) (.slice none 0 0) (.slice none 0 0) 0) 27) = W at *
  have hdb : Below w.heap.size w W.drew := Hl.out.drew
  have hBm := HBd.out.move (N' := N) (X' := (w.heap.size + 1) :: X) (Kg.Touch.of_below hdb X) (fun k hk => by rcases List.mem_cons.1 hk with rfl | h1; exact ⟨by show w.heap.size + 1 < W.heap.size; omega, .inr (by omega)⟩; exact ⟨Nat.lt_of_lt_of_le (HBd.out.x k h1).1 hdb.size, .inl h1⟩) (fun _ _ _ => rfl) (fun k hk => HBd.out.d k (Nat.le_trans hdb.size hk)) (fun k hk => by rcases List.mem_cons.1 hk with rfl | h1; exact HBd.out.d _ (by omega); exact HBd.out.z k (List.mem_append_left _ h1))
  have hB0 : Bd W.drew n1 R N S ((w.heap.size + 1) :: X) := hBm.1
  have HSt0 : Hid (Stp w W.drew (X ++ S.F R) (((w.heap.size + 1) :: X) ++ S.F R) N N) := hBm.2
  have HtW : Hid (Kg.Touch (S.F R) w W.drew) := Kg.Touch.of_below hdb _
  clear hBm
  have HPn : Hid (∀ k, k ∈ S.F R → k < w.heap.size) := fun k hk => (HBd.out.lt k hk).1
  have HPc : Hid (∀ w' F' N', Stp W.drew w' (((w.heap.size + 1) :: X) ++ S.F R) F' N N' → w'.cell? ⟨w.heap.size, 0, none⟩ = some (.slice aa os.length ac) ∧ w'.cell? ⟨w.heap.size, 1, none⟩ = some (.slice ba ts.length bc) ∧ w'.cell? ⟨w.heap.size, 2, none⟩ = some (.slice ca g.hs.length cc) ∧ w'.cell? ⟨w.heap.size, 3, none⟩ = some (.slice da g.rg.length dc) ∧ w'.cell? ⟨w.heap.size, 4, none⟩ = some (.slice ea g.qu.length ec) ∧ w'.cell? ⟨w.heap.size, 5, none⟩ = some (.int .u64 g.next)) := fun w' F' N' st => by
    have hlt : w.heap.size < W.drew.heap.size := by show w.heap.size < W.heap.size; omega
    have hno : w.heap.size ∉ ((w.heap.size + 1) :: X) ++ S.F R := fun hk => by
      rcases List.mem_append.1 hk with h1 | h1
      · rcases List.mem_cons.1 h1 with h2 | h2
        · omega
        · exact Nat.lt_irrefl _ (HBd.out.x _ h2).1
      · exact Nat.lt_irrefl _ (HPn.out _ h1)
    exact ⟨(st.cell hlt hno).trans (Kg.heap_cell hy 0), (st.cell hlt hno).trans (Kg.heap_cell hy 1), (st.cell hlt hno).trans (Kg.heap_cell hy 2), (st.cell hlt hno).trans (Kg.heap_cell hy 3), (st.cell hlt hno).trans (Kg.heap_cell hy 4), (st.cell hlt hno).trans (Kg.heap_cell hy 5)⟩
  have Hz0 : Hid (W.drew.heap[w.heap.size + 1]? = some (.cells (gcs (.slice none 0 0) (.slice none 0 0) (.slice none 0 0) (.slice none 0 0) (.slice none 0 0) 0) 27 (0, 0))) := hz
  have HGn : Hid (∀ w', Below n0 w w' → Grd n0 w' (.slice aa os.length ac) (.slice ba ts.length bc) (.slice ca g.hs.length cc) (.slice da g.rg.length dc) (.slice ea g.qu.length ec) os ts g) := fun w' b' => Hg.out.below b'
  have hb0 : Below n0 w W.drew := hdb.mono (Nat.le_trans hn hn1)
  have hW1 : n1 ≤ W.drew.heap.size := Nat.le_trans hn1 hdb.size
  have hc1 := roomObjects_any hB0 n0 hn (.slice aa os.length ac) os (HGn.out _ hb0).ob Hs.out.o Hs.out.ol (by have := HT.out; have := Hs.out.o; omega) hW1
  have HF : Hid (∀ w1 N1 S1, Bd w1 n1 R N1 S1 ((w.heap.size + 1) :: X) → Below n0 w w1 → n1 ≤ w1.heap.size → S1.tot ≤ 200000000 → Calls Tryd.prog 12 #[.pointer (some ⟨R, 0, none⟩), .slice ba ts.length bc] w1 fun e w' => ∃ u, e = .returned u ∧ RPost n1 R N1 S1 ((w.heap.size + 1) :: X) w1 w' (csF ts + 1) (fun w' N' F' => ∃ fs', fs'.map (fun t => t.2.map (·.2)) = ts.map (fun t => t.2.map (·.2)) ∧ PT n1 w' N' F' u fs')) := fun w1 N1 S1 bd b' hn1' hT => roomFrames_any bd n0 hn _ ts (HGn.out _ b').sl Hs.out.t Hs.out.tl (by have := Hs.out.tc; omega) hn1'
  have HH : Hid (∀ w1 N1 S1, Bd w1 n1 R N1 S1 ((w.heap.size + 1) :: X) → Below n0 w w1 → n1 ≤ w1.heap.size → S1.tot ≤ 900000000 → Calls Tryd.prog 13 #[.pointer (some ⟨R, 0, none⟩), .slice ca g.hs.length cc] w1 fun e w' => ∃ u, e = .returned u ∧ RPost n1 R N1 S1 ((w.heap.size + 1) :: X) w1 w' 1 (fun w' N' F' => ∃ b, Got w' N' F' n1 b .i64 u g.hs)) := fun w1 N1 S1 bd b' hn1' hT => roomInts_any bd n0 (Nat.le_trans hn hn1') _ g.hs (HGn.out _ b').hs Hs.out.h (by omega) hn1'
  have HR : Hid (∀ w1 N1 S1, Bd w1 n1 R N1 S1 ((w.heap.size + 1) :: X) → Below n0 w w1 → n1 ≤ w1.heap.size → S1.tot ≤ 900000000 → Calls Tryd.prog 13 #[.pointer (some ⟨R, 0, none⟩), .slice da g.rg.length dc] w1 fun e w' => ∃ u, e = .returned u ∧ RPost n1 R N1 S1 ((w.heap.size + 1) :: X) w1 w' 1 (fun w' N' F' => ∃ b, Got w' N' F' n1 b .i64 u g.rg)) := fun w1 N1 S1 bd b' hn1' hT => roomInts_any bd n0 (Nat.le_trans hn hn1') _ g.rg (HGn.out _ b').rg Hs.out.r (by omega) hn1'
  have HQ : Hid (∀ w1 N1 S1, Bd w1 n1 R N1 S1 ((w.heap.size + 1) :: X) → Below n0 w w1 → n1 ≤ w1.heap.size → S1.tot ≤ 900000000 → Calls Tryd.prog 13 #[.pointer (some ⟨R, 0, none⟩), .slice ea g.qu.length ec] w1 fun e w' => ∃ u, e = .returned u ∧ RPost n1 R N1 S1 ((w.heap.size + 1) :: X) w1 w' 1 (fun w' N' F' => ∃ b, Got w' N' F' n1 b .i64 u g.qu)) := fun w1 N1 S1 bd b' hn1' hT => roomInts_any bd n0 (Nat.le_trans hn hn1') _ g.qu (HGn.out _ b').qu Hs.out.q (by omega) hn1'
  have HTb : Hid (∀ w1 w2 N1 S1, Bd w1 n1 R N1 S1 ((w.heap.size + 1) :: X) → Below n0 w w1 → n1 ≤ w1.heap.size → Kg.Touch (S1.F R) w1 w2 → Below n0 w w2 ∧ n1 ≤ w2.heap.size) := fun w1 w2 N1 S1 bd b' hn1' t => ⟨b'.trans (t.below (Nat.le_trans hn hn1') (fun q hq => Nat.le_trans hn (bd.lt q hq).2)), Nat.le_trans hn1' t.size⟩
  obtain ⟨c0, c1, c2, c3, c4, c5⟩ := HPc.out W.drew _ N (Stp.refl _ _ _)
  have k0 : W.cell? ⟨w.heap.size, 0, none⟩ = some (.slice aa os.length ac) := c0
  have k1 : W.cell? ⟨w.heap.size, 1, none⟩ = some (.slice ba ts.length bc) := c1
  have k2 : W.cell? ⟨w.heap.size, 2, none⟩ = some (.slice ca g.hs.length cc) := c2
  have k3 : W.cell? ⟨w.heap.size, 3, none⟩ = some (.slice da g.rg.length dc) := c3
  have k4 : W.cell? ⟨w.heap.size, 4, none⟩ = some (.slice ea g.qu.length ec) := c4
  have k5 : W.cell? ⟨w.heap.size, 5, none⟩ = some (.int .u64 g.next) := c5
  have HT0 : Hid (S.tot ≤ 100000000 ∧ os.length ≤ 2000000 ∧ csF ts ≤ 100000000) := ⟨HT.out, Hs.out.o, Hs.out.tc⟩
  clear hy hz
  clear c0 c1 c2 c3 c4 c5
  refine wp_region_held_drew (S := (fun w' => w'.cell? ⟨w.heap.size, 0, none⟩ = some (.slice aa os.length ac) ∧ w'.cell? ⟨w.heap.size, 1, none⟩ = some (.slice ba ts.length bc) ∧ w'.cell? ⟨w.heap.size, 2, none⟩ = some (.slice ca g.hs.length cc) ∧ w'.cell? ⟨w.heap.size, 3, none⟩ = some (.slice da g.rg.length dc) ∧ w'.cell? ⟨w.heap.size, 4, none⟩ = some (.slice ea g.qu.length ec) ∧ w'.cell? ⟨w.heap.size, 5, none⟩ = some (.int .u64 g.next))) Kg.mixed (And.intro k0 (And.intro k1 (And.intro k2 (And.intro k3 (And.intro k4 k5))))) (fun hHeld => ?_)
  clear k0 k1 k2 k3 k4 k5
  refine wpAnyH_take (i := 0) (v := (.pointer (some ⟨R, 0, none⟩))) rfl (by kernel_rfl) (by kernel_rfl) (by kernel_rfl) (fun _ _ _ h => h) (Or.inl ⟨by rfl, fun wx hSw => ?_⟩) (by assumption) ?_
  · go_simp
  change wpAnyH _ _ _ _ _ _ _ (Act.put _ (some 5) (.pointer (some ⟨R, 0, none⟩))) _
  simp only [Act.put, List.setIfInBounds_toArray, List.set_cons_zero, List.set_cons_succ]
  refine wpAnyH_take (i := 1) (v := (.pointer (some ⟨w.heap.size, 0, none⟩))) rfl (by kernel_rfl) (by kernel_rfl) (by kernel_rfl) (fun _ _ _ h => h) (Or.inl ⟨by rfl, fun wx hSw => ?_⟩) (by assumption) ?_
  · go_simp
  change wpAnyH _ _ _ _ _ _ _ (Act.put _ (some 6) (.pointer (some ⟨w.heap.size, 0, none⟩))) _
  simp only [Act.put, List.setIfInBounds_toArray, List.set_cons_zero, List.set_cons_succ]
  refine wpAnyH_take (i := 2) (v := (.slice aa os.length ac)) rfl (by kernel_rfl) (by kernel_rfl) (by kernel_rfl) (fun _ _ _ h => h) (Or.inl ⟨by rfl, fun wx hSw => ?_⟩) (by assumption) ?_
  · obtain ⟨s0, s1, s2, s3, s4, s5⟩ := hSw; go_simp
  change wpAnyH _ _ _ _ _ _ _ (Act.put _ (some 7) (.slice aa os.length ac)) _
  simp only [Act.put, List.setIfInBounds_toArray, List.set_cons_zero, List.set_cons_succ]
  refine wpAnyH_take (i := 4) (v := (.pointer (some ⟨R, 0, none⟩))) rfl (by kernel_rfl) (by kernel_rfl) (by kernel_rfl) (fun _ _ _ h => h) (Or.inl ⟨by rfl, fun wx hSw => ?_⟩) (by assumption) ?_
  · go_simp
  change wpAnyH _ _ _ _ _ _ _ (Act.put _ (some 9) (.pointer (some ⟨R, 0, none⟩))) _
  simp only [Act.put, List.setIfInBounds_toArray, List.set_cons_zero, List.set_cons_succ]
  refine wpAnyH_take (i := 5) (v := (.pointer (some ⟨w.heap.size, 1, none⟩))) rfl (by kernel_rfl) (by kernel_rfl) (by kernel_rfl) (fun _ _ _ h => h) (Or.inl ⟨by rfl, fun wx hSw => ?_⟩) (by assumption) ?_
  · go_simp
  change wpAnyH _ _ _ _ _ _ _ (Act.put _ (some 10) (.pointer (some ⟨w.heap.size, 1, none⟩))) _
  simp only [Act.put, List.setIfInBounds_toArray, List.set_cons_zero, List.set_cons_succ]
  refine wpAnyH_take (i := 6) (v := (.slice ba ts.length bc)) rfl (by kernel_rfl) (by kernel_rfl) (by kernel_rfl) (fun _ _ _ h => h) (Or.inl ⟨by rfl, fun wx hSw => ?_⟩) (by assumption) ?_
  · obtain ⟨s0, s1, s2, s3, s4, s5⟩ := hSw; go_simp
  change wpAnyH _ _ _ _ _ _ _ (Act.put _ (some 11) (.slice ba ts.length bc)) _
  simp only [Act.put, List.setIfInBounds_toArray, List.set_cons_zero, List.set_cons_succ]
  refine wpAnyH_take (i := 8) (v := (.pointer (some ⟨R, 0, none⟩))) rfl (by kernel_rfl) (by kernel_rfl) (by kernel_rfl) (fun _ _ _ h => h) (Or.inl ⟨by rfl, fun wx hSw => ?_⟩) (by assumption) ?_
  · go_simp
  change wpAnyH _ _ _ _ _ _ _ (Act.put _ (some 13) (.pointer (some ⟨R, 0, none⟩))) _
  simp only [Act.put, List.setIfInBounds_toArray, List.set_cons_zero, List.set_cons_succ]
  refine wpAnyH_take (i := 9) (v := (.pointer (some ⟨w.heap.size, 2, none⟩))) rfl (by kernel_rfl) (by kernel_rfl) (by kernel_rfl) (fun _ _ _ h => h) (Or.inl ⟨by rfl, fun wx hSw => ?_⟩) (by assumption) ?_
  · go_simp
  change wpAnyH _ _ _ _ _ _ _ (Act.put _ (some 14) (.pointer (some ⟨w.heap.size, 2, none⟩))) _
  simp only [Act.put, List.setIfInBounds_toArray, List.set_cons_zero, List.set_cons_succ]
  refine wpAnyH_take (i := 10) (v := (.slice ca g.hs.length cc)) rfl (by kernel_rfl) (by kernel_rfl) (by kernel_rfl) (fun _ _ _ h => h) (Or.inl ⟨by rfl, fun wx hSw => ?_⟩) (by assumption) ?_
  · obtain ⟨s0, s1, s2, s3, s4, s5⟩ := hSw; go_simp
  change wpAnyH _ _ _ _ _ _ _ (Act.put _ (some 15) (.slice ca g.hs.length cc)) _
  simp only [Act.put, List.setIfInBounds_toArray, List.set_cons_zero, List.set_cons_succ]
  refine wpAnyH_take (i := 12) (v := (.pointer (some ⟨R, 0, none⟩))) rfl (by kernel_rfl) (by kernel_rfl) (by kernel_rfl) (fun _ _ _ h => h) (Or.inl ⟨by rfl, fun wx hSw => ?_⟩) (by assumption) ?_
  · go_simp
  change wpAnyH _ _ _ _ _ _ _ (Act.put _ (some 17) (.pointer (some ⟨R, 0, none⟩))) _
  simp only [Act.put, List.setIfInBounds_toArray, List.set_cons_zero, List.set_cons_succ]
  refine wpAnyH_take (i := 13) (v := (.pointer (some ⟨w.heap.size, 3, none⟩))) rfl (by kernel_rfl) (by kernel_rfl) (by kernel_rfl) (fun _ _ _ h => h) (Or.inl ⟨by rfl, fun wx hSw => ?_⟩) (by assumption) ?_
  · go_simp
  change wpAnyH _ _ _ _ _ _ _ (Act.put _ (some 18) (.pointer (some ⟨w.heap.size, 3, none⟩))) _
  simp only [Act.put, List.setIfInBounds_toArray, List.set_cons_zero, List.set_cons_succ]
  refine wpAnyH_take (i := 14) (v := (.slice da g.rg.length dc)) rfl (by kernel_rfl) (by kernel_rfl) (by kernel_rfl) (fun _ _ _ h => h) (Or.inl ⟨by rfl, fun wx hSw => ?_⟩) (by assumption) ?_
  · obtain ⟨s0, s1, s2, s3, s4, s5⟩ := hSw; go_simp
  change wpAnyH _ _ _ _ _ _ _ (Act.put _ (some 19) (.slice da g.rg.length dc)) _
  simp only [Act.put, List.setIfInBounds_toArray, List.set_cons_zero, List.set_cons_succ]
  refine wpAnyH_take (i := 16) (v := (.pointer (some ⟨R, 0, none⟩))) rfl (by kernel_rfl) (by kernel_rfl) (by kernel_rfl) (fun _ _ _ h => h) (Or.inl ⟨by rfl, fun wx hSw => ?_⟩) (by assumption) ?_
  · go_simp
  change wpAnyH _ _ _ _ _ _ _ (Act.put _ (some 21) (.pointer (some ⟨R, 0, none⟩))) _
  simp only [Act.put, List.setIfInBounds_toArray, List.set_cons_zero, List.set_cons_succ]
  refine wpAnyH_take (i := 17) (v := (.pointer (some ⟨w.heap.size, 4, none⟩))) rfl (by kernel_rfl) (by kernel_rfl) (by kernel_rfl) (fun _ _ _ h => h) (Or.inl ⟨by rfl, fun wx hSw => ?_⟩) (by assumption) ?_
  · go_simp
  change wpAnyH _ _ _ _ _ _ _ (Act.put _ (some 22) (.pointer (some ⟨w.heap.size, 4, none⟩))) _
  simp only [Act.put, List.setIfInBounds_toArray, List.set_cons_zero, List.set_cons_succ]
  refine wpAnyH_take (i := 18) (v := (.slice ea g.qu.length ec)) rfl (by kernel_rfl) (by kernel_rfl) (by kernel_rfl) (fun _ _ _ h => h) (Or.inl ⟨by rfl, fun wx hSw => ?_⟩) (by assumption) ?_
  · obtain ⟨s0, s1, s2, s3, s4, s5⟩ := hSw; go_simp
  change wpAnyH _ _ _ _ _ _ _ (Act.put _ (some 23) (.slice ea g.qu.length ec)) _
  simp only [Act.put, List.setIfInBounds_toArray, List.set_cons_zero, List.set_cons_succ]
  refine wpAnyH_take (i := 20) (v := (.pointer (some ⟨w.heap.size, 5, none⟩))) rfl (by kernel_rfl) (by kernel_rfl) (by kernel_rfl) (fun _ _ _ h => h) (Or.inl ⟨by rfl, fun wx hSw => ?_⟩) (by assumption) ?_
  · go_simp
  change wpAnyH _ _ _ _ _ _ _ (Act.put _ (some 25) (.pointer (some ⟨w.heap.size, 5, none⟩))) _
  simp only [Act.put, List.setIfInBounds_toArray, List.set_cons_zero, List.set_cons_succ]
  refine wpAnyH_take (i := 21) (v := (.int .u64 g.next)) rfl (by kernel_rfl) (by kernel_rfl) (by kernel_rfl) (fun _ _ _ h => h) (Or.inl ⟨by rfl, fun wx hSw => ?_⟩) (by assumption) ?_
  · obtain ⟨s0, s1, s2, s3, s4, s5⟩ := hSw; go_simp
  change wpAnyH _ _ _ _ _ _ _ (Act.put _ (some 26) (.int .u64 g.next)) _
  simp only [Act.put, List.setIfInBounds_toArray, List.set_cons_zero, List.set_cons_succ]
  refine wpAnyH_ready (rs := [3]) (by kernel_rfl) (by simp) (AllReadyH.cons rfl (fun K hK => ?_) AllReadyH.nil)
  go_simp
  refine hc1.mono ?_
  rintro e w1 ⟨u1, rfl, N1, S1, ⟨L1, b1, hL1, hG1⟩, bd1, st1, tc1, tt1⟩
  clear hc1
  have z1 := (tc1.block (w.heap.size + 1) (Kg.heap_lt Hz0.out) (hB0.x _ (by simp)).2).trans Hz0.out
  have hu1 := hG1.is
  subst hu1
  obtain ⟨hb1, hn1a⟩ := HTb.out _ _ _ _ hB0 hb0 hW1 tc1
  have hc2 := HF.out w1 N1 S1 bd1 hb1 hn1a (by have := HT0.out; omega)
  refine hK.out _ _ (⟨(HPc.out w1 _ N1 st1).1, (HPc.out w1 _ N1 st1).2.1, (HPc.out w1 _ N1 st1).2.2.1, (HPc.out w1 _ N1 st1).2.2.2.1, (HPc.out w1 _ N1 st1).2.2.2.2.1, (HPc.out w1 _ N1 st1).2.2.2.2.2⟩) (fun hHeld3 => ?_)
  clear hK K hHeld
  have hHeld := hHeld3
  clear hHeld3
  refine wpAnyH_ready (rs := [7]) (by kernel_rfl) (by simp) (AllReadyH.cons rfl (fun K hK => ?_) AllReadyH.nil)
  go_simp
  refine hc2.mono ?_
  rintro e w2 ⟨u2, rfl, N2, S2, ⟨L2, hL2, ⟨b2, hG2⟩⟩, bd2, st2, tc2, tt2⟩
  clear hc2
  have z2 := (tc2.block (w.heap.size + 1) (Kg.heap_lt z1) (bd1.x _ (by simp)).2).trans z1
  have hu2 := hG2.is
  subst hu2
  have st12 := st1.trans st2
  obtain ⟨hb2, hn2a⟩ := HTb.out _ _ _ _ bd1 hb1 hn1a tc2
  have hc3 := HH.out w2 N2 S2 bd2 hb2 hn2a (by have := HT0.out; omega)
  refine hK.out _ _ (⟨(HPc.out w2 _ N2 st12).1, (HPc.out w2 _ N2 st12).2.1, (HPc.out w2 _ N2 st12).2.2.1, (HPc.out w2 _ N2 st12).2.2.2.1, (HPc.out w2 _ N2 st12).2.2.2.2.1, (HPc.out w2 _ N2 st12).2.2.2.2.2⟩) (fun hHeld7 => ?_)
  clear hK K hHeld
  have hHeld := hHeld7
  clear hHeld7
  refine wpAnyH_ready (rs := [11]) (by kernel_rfl) (by simp) (AllReadyH.cons rfl (fun K hK => ?_) AllReadyH.nil)
  go_simp
  refine hc3.mono ?_
  rintro e w3 ⟨u3, rfl, N3, S3, ⟨b3, hG3⟩, bd3, st3, tc3, tt3⟩
  clear hc3
  have z3 := (tc3.block (w.heap.size + 1) (Kg.heap_lt z2) (bd2.x _ (by simp)).2).trans z2
  have hu3 := hG3.is
  subst hu3
  have st13 := st12.trans st3
  obtain ⟨hb3, hn3a⟩ := HTb.out _ _ _ _ bd2 hb2 hn2a tc3
  have hc4 := HR.out w3 N3 S3 bd3 hb3 hn3a (by have := HT0.out; omega)
  refine hK.out _ _ (⟨(HPc.out w3 _ N3 st13).1, (HPc.out w3 _ N3 st13).2.1, (HPc.out w3 _ N3 st13).2.2.1, (HPc.out w3 _ N3 st13).2.2.2.1, (HPc.out w3 _ N3 st13).2.2.2.2.1, (HPc.out w3 _ N3 st13).2.2.2.2.2⟩) (fun hHeld11 => ?_)
  clear hK K hHeld
  have hHeld := hHeld11
  clear hHeld11
  refine wpAnyH_ready (rs := [15]) (by kernel_rfl) (by simp) (AllReadyH.cons rfl (fun K hK => ?_) AllReadyH.nil)
  go_simp
  refine hc4.mono ?_
  rintro e w4 ⟨u4, rfl, N4, S4, ⟨b4, hG4⟩, bd4, st4, tc4, tt4⟩
  clear hc4
  have z4 := (tc4.block (w.heap.size + 1) (Kg.heap_lt z3) (bd3.x _ (by simp)).2).trans z3
  have hu4 := hG4.is
  subst hu4
  have st14 := st13.trans st4
  obtain ⟨hb4, hn4a⟩ := HTb.out _ _ _ _ bd3 hb3 hn3a tc4
  have hc5 := HQ.out w4 N4 S4 bd4 hb4 hn4a (by have := HT0.out; omega)
  refine hK.out _ _ (⟨(HPc.out w4 _ N4 st14).1, (HPc.out w4 _ N4 st14).2.1, (HPc.out w4 _ N4 st14).2.2.1, (HPc.out w4 _ N4 st14).2.2.2.1, (HPc.out w4 _ N4 st14).2.2.2.2.1, (HPc.out w4 _ N4 st14).2.2.2.2.2⟩) (fun hHeld15 => ?_)
  clear hK K hHeld
  have hHeld := hHeld15
  clear hHeld15
  refine wpAnyH_ready (rs := [19]) (by kernel_rfl) (by simp) (AllReadyH.cons rfl (fun K hK => ?_) AllReadyH.nil)
  go_simp
  refine hc5.mono ?_
  rintro e w5 ⟨u5, rfl, N5, S5, ⟨b5, hG5⟩, bd5, st5, tc5, tt5⟩
  clear hc5
  have z5 := (tc5.block (w.heap.size + 1) (Kg.heap_lt z4) (bd4.x _ (by simp)).2).trans z4
  have hu5 := hG5.is
  subst hu5
  have st15 := st14.trans st5
  refine hK.out _ _ (⟨(HPc.out w5 _ N5 st15).1, (HPc.out w5 _ N5 st15).2.1, (HPc.out w5 _ N5 st15).2.2.1, (HPc.out w5 _ N5 st15).2.2.2.1, (HPc.out w5 _ N5 st15).2.2.2.2.1, (HPc.out w5 _ N5 st15).2.2.2.2.2⟩) (fun hHeld19 => ?_)
  clear hK K hHeld
  have hHeld := hHeld19
  clear hHeld19
  refine wpAnyH_take (i := 22) (v := .agg (gcs (.slice (some ⟨b1, 0, none⟩) L1.length (L1.length + 8)) (.slice (some ⟨b2, 0, none⟩) L2.length (L2.length + 8)) (.slice (some ⟨b3, 0, none⟩) g.hs.length (g.hs.length + 40)) (.slice (some ⟨b4, 0, none⟩) g.rg.length (g.rg.length + 40)) (.slice (some ⟨b5, 0, none⟩) g.qu.length (g.qu.length + 40)) g.next)) rfl (by kernel_rfl) (by kernel_rfl) (by kernel_rfl) (fun _ _ _ h => h) (Or.inl ⟨by rfl, fun wx hSw => ?_⟩) (by assumption) ?_
  · go_simp
  change wpAnyH _ _ _ _ _ _ _ (Act.put _ (some 27) (.agg (gcs (.slice (some ⟨b1, 0, none⟩) L1.length (L1.length + 8)) (.slice (some ⟨b2, 0, none⟩) L2.length (L2.length + 8)) (.slice (some ⟨b3, 0, none⟩) g.hs.length (g.hs.length + 40)) (.slice (some ⟨b4, 0, none⟩) g.rg.length (g.rg.length + 40)) (.slice (some ⟨b5, 0, none⟩) g.qu.length (g.qu.length + 40)) g.next))) _
  simp only [Act.put, List.setIfInBounds_toArray, List.set_cons_zero, List.set_cons_succ]
  have jz := z5
  have hw5 : w.heap.size + 1 < w5.heap.size := Kg.heap_lt jz
  have t6 : Kg.Touch [w.heap.size + 1] w5 (w5.setRow (w.heap.size + 1) (gcs (.slice (some ⟨b1, 0, none⟩) L1.length (L1.length + 8)) (.slice (some ⟨b2, 0, none⟩) L2.length (L2.length + 8)) (.slice (some ⟨b3, 0, none⟩) g.hs.length (g.hs.length + 40)) (.slice (some ⟨b4, 0, none⟩) g.rg.length (g.rg.length + 40)) (.slice (some ⟨b5, 0, none⟩) g.qu.length (g.qu.length + 40)) g.next)) := ⟨rfl, rfl, rfl, by simp, fun k _ hk => setRow_other w5 _ k _ (fun e => hk (by simp [e]))⟩
  have h6 : w.heap.size < w5.heap.size := by omega
  have hS6 : ∀ j, (w5.setRow (w.heap.size + 1) (gcs (.slice (some ⟨b1, 0, none⟩) L1.length (L1.length + 8)) (.slice (some ⟨b2, 0, none⟩) L2.length (L2.length + 8)) (.slice (some ⟨b3, 0, none⟩) g.hs.length (g.hs.length + 40)) (.slice (some ⟨b4, 0, none⟩) g.rg.length (g.rg.length + 40)) (.slice (some ⟨b5, 0, none⟩) g.qu.length (g.qu.length + 40)) g.next)).cell? ⟨w.heap.size, j, none⟩ = w5.cell? ⟨w.heap.size, j, none⟩ := fun j => World.cell?_of_block (w := w5) (t6.block _ h6 (by simp))
  refine wpAnyH_ready (rs := [23]) (by kernel_rfl) (by simp) (AllReadyH.cons rfl (fun K hK => ?_) AllReadyH.nil)
  rw [if_pos (by rfl)]
  refine wp_store_row 27 (.tmp 4) (.tmp 27) rfl (w.heap.size + 1) (gcs (.slice (some ⟨b1, 0, none⟩) L1.length (L1.length + 8)) (.slice (some ⟨b2, 0, none⟩) L2.length (L2.length + 8)) (.slice (some ⟨b3, 0, none⟩) g.hs.length (g.hs.length + 40)) (.slice (some ⟨b4, 0, none⟩) g.rg.length (g.rg.length + 40)) (.slice (some ⟨b5, 0, none⟩) g.qu.length (g.qu.length + 40)) g.next) rfl rfl 27 _ jz (by kernel_rfl) rfl (by simp [Value.oneCell']) ?_
  refine hK.out _ _ ⟨by rw [hS6]; exact hHeld.1, by rw [hS6]; exact hHeld.2.1, by rw [hS6]; exact hHeld.2.2.1, by rw [hS6]; exact hHeld.2.2.2.1, by rw [hS6]; exact hHeld.2.2.2.2.1, by rw [hS6]; exact hHeld.2.2.2.2.2⟩ (fun hHeld6 => ?_)
  clear hK K
  refine wpAnyH_done (by kernel_rfl) ?_ _
  have hm6 := bd5.move (N' := N5) (X' := X) (t6.mono (fun k hk => .inl (List.mem_cons.2 (.inl (List.mem_singleton.1 hk))))) (fun k hk => ⟨Nat.lt_of_lt_of_le (bd5.x k (List.mem_cons_of_mem _ hk)).1 t6.size, .inl (List.mem_cons_of_mem _ hk)⟩) (fun _ _ _ => rfl) (fun k hk => bd5.d k (Nat.le_trans t6.size hk)) (fun k hk => bd5.z k (List.mem_append_left _ (List.mem_cons_of_mem _ hk)))
  have HSf : ∀ (w' : World) (N' : Nat → Nat) (S' : RS), Bd w' n1 R N' S' ((w.heap.size + 1) :: X) → Stp W.drew w' (((w.heap.size + 1) :: X) ++ S.F R) (((w.heap.size + 1) :: X) ++ S'.F R) N N' → ∀ k, k ∈ S'.F R → k ∈ S.F R ∨ w.heap.size ≤ k := fun w' N' S' bd st k hk => by
    rcases st.f k (List.mem_append_right _ hk) with h1 | h1
    · rcases List.mem_append.1 h1 with h2 | h2
      · exact absurd hk (bd.x k h2).2
      · exact .inl h2
    · exact .inr (Nat.le_trans hdb.size h1)
  have T1 : Kg.Touch (S.F R) w w1 := HtW.out.trans tc1
  have T2 : Kg.Touch (S.F R) w w2 := T1.then tc2 (HSf _ _ _ bd1 st1)
  have T3 : Kg.Touch (S.F R) w w3 := T2.then tc3 (HSf _ _ _ bd2 st12)
  have T4 : Kg.Touch (S.F R) w w4 := T3.then tc4 (HSf _ _ _ bd3 st13)
  have T5 : Kg.Touch (S.F R) w w5 := T4.then tc5 (HSf _ _ _ bd4 st14)
  have T6 : Kg.Touch (S.F R) w (w5.setRow (w.heap.size + 1) (gcs (.slice (some ⟨b1, 0, none⟩) L1.length (L1.length + 8)) (.slice (some ⟨b2, 0, none⟩) L2.length (L2.length + 8)) (.slice (some ⟨b3, 0, none⟩) g.hs.length (g.hs.length + 40)) (.slice (some ⟨b4, 0, none⟩) g.rg.length (g.rg.length + 40)) (.slice (some ⟨b5, 0, none⟩) g.qu.length (g.qu.length + 40)) g.next)) := T5.then t6 (fun k hk => by simp at hk; exact .inr (by omega))
  have S6 : Stp w (w5.setRow (w.heap.size + 1) (gcs (.slice (some ⟨b1, 0, none⟩) L1.length (L1.length + 8)) (.slice (some ⟨b2, 0, none⟩) L2.length (L2.length + 8)) (.slice (some ⟨b3, 0, none⟩) g.hs.length (g.hs.length + 40)) (.slice (some ⟨b4, 0, none⟩) g.rg.length (g.rg.length + 40)) (.slice (some ⟨b5, 0, none⟩) g.qu.length (g.qu.length + 40)) g.next)) (X ++ S.F R) (X ++ S5.F R) N N5 := (HSt0.out.trans st15).trans hm6.2
  have s25 := (st2.trans st3).trans (st4.trans st5)
  have HLent : Hid (Lent (w5.setRow (w.heap.size + 1) (gcs (.slice (some ⟨b1, 0, none⟩) L1.length (L1.length + 8)) (.slice (some ⟨b2, 0, none⟩) L2.length (L2.length + 8)) (.slice (some ⟨b3, 0, none⟩) g.hs.length (g.hs.length + 40)) (.slice (some ⟨b4, 0, none⟩) g.rg.length (g.rg.length + 40)) (.slice (some ⟨b5, 0, none⟩) g.qu.length (g.qu.length + 40)) g.next)) N5 (X ++ S5.F R) n1 (.slice (some ⟨b1, 0, none⟩) L1.length (L1.length + 8)) (.slice (some ⟨b2, 0, none⟩) L2.length (L2.length + 8)) (.slice (some ⟨b3, 0, none⟩) g.hs.length (g.hs.length + 40)) (.slice (some ⟨b4, 0, none⟩) g.rg.length (g.rg.length + 40)) (.slice (some ⟨b5, 0, none⟩) g.qu.length (g.qu.length + 40)) L1 L2 g) :=
    ⟨⟨b1, (hG1.stp s25).stp hm6.2⟩, PT.sta n1 _ _ _ _ _ _ _ _ ⟨b2, (hG2.stp (PL.sta n1) (st3.trans (st4.trans st5)))⟩ hm6.2, ⟨b3, (hG3.stp (st4.trans st5)).stp hm6.2⟩, ⟨b4, (hG4.stp st5).stp hm6.2⟩, ⟨b5, hG5.stp hm6.2⟩, by rw [Hg.out.eo, hL1], by rw [Hg.out.es, hL2]⟩
  have HP6 : Hid (Bd (w5.setRow (w.heap.size + 1) (gcs (.slice (some ⟨b1, 0, none⟩) L1.length (L1.length + 8)) (.slice (some ⟨b2, 0, none⟩) L2.length (L2.length + 8)) (.slice (some ⟨b3, 0, none⟩) g.hs.length (g.hs.length + 40)) (.slice (some ⟨b4, 0, none⟩) g.rg.length (g.rg.length + 40)) (.slice (some ⟨b5, 0, none⟩) g.qu.length (g.qu.length + 40)) g.next)) n1 R N5 S5 X ∧ Stp w (w5.setRow (w.heap.size + 1) (gcs (.slice (some ⟨b1, 0, none⟩) L1.length (L1.length + 8)) (.slice (some ⟨b2, 0, none⟩) L2.length (L2.length + 8)) (.slice (some ⟨b3, 0, none⟩) g.hs.length (g.hs.length + 40)) (.slice (some ⟨b4, 0, none⟩) g.rg.length (g.rg.length + 40)) (.slice (some ⟨b5, 0, none⟩) g.qu.length (g.qu.length + 40)) g.next)) (X ++ S.F R) (X ++ S5.F R) N N5 ∧ Kg.Touch (S.F R) w (w5.setRow (w.heap.size + 1) (gcs (.slice (some ⟨b1, 0, none⟩) L1.length (L1.length + 8)) (.slice (some ⟨b2, 0, none⟩) L2.length (L2.length + 8)) (.slice (some ⟨b3, 0, none⟩) g.hs.length (g.hs.length + 40)) (.slice (some ⟨b4, 0, none⟩) g.rg.length (g.rg.length + 40)) (.slice (some ⟨b5, 0, none⟩) g.qu.length (g.qu.length + 40)) g.next)) ∧ S5.tot = S.tot + (2 * os.length + csF ts + 5)) := ⟨hm6.1, S6, T6, by omega⟩
  have z6 : (w5.setRow (w.heap.size + 1) (gcs (.slice (some ⟨b1, 0, none⟩) L1.length (L1.length + 8)) (.slice (some ⟨b2, 0, none⟩) L2.length (L2.length + 8)) (.slice (some ⟨b3, 0, none⟩) g.hs.length (g.hs.length + 40)) (.slice (some ⟨b4, 0, none⟩) g.rg.length (g.rg.length + 40)) (.slice (some ⟨b5, 0, none⟩) g.qu.length (g.qu.length + 40)) g.next)).heap[w.heap.size + 1]? = some (.cells (gcs (.slice (some ⟨b1, 0, none⟩) L1.length (L1.length + 8)) (.slice (some ⟨b2, 0, none⟩) L2.length (L2.length + 8)) (.slice (some ⟨b3, 0, none⟩) g.hs.length (g.hs.length + 40)) (.slice (some ⟨b4, 0, none⟩) g.rg.length (g.rg.length + 40)) (.slice (some ⟨b5, 0, none⟩) g.qu.length (g.qu.length + 40)) g.next) 27 (0, 0)) := setRow_heap w5 _ _ _ _ _ jz
  generalize w5.setRow (w.heap.size + 1) (gcs (.slice (some ⟨b1, 0, none⟩) L1.length (L1.length + 8)) (.slice (some ⟨b2, 0, none⟩) L2.length (L2.length + 8)) (.slice (some ⟨b3, 0, none⟩) g.hs.length (g.hs.length + 40)) (.slice (some ⟨b4, 0, none⟩) g.rg.length (g.rg.length + 40)) (.slice (some ⟨b5, 0, none⟩) g.qu.length (g.qu.length + 40)) g.next) = w6 at *
  have x0 := Kg.heap_cell z6 0
  have x1 := Kg.heap_cell z6 1
  have x2 := Kg.heap_cell z6 2
  have x3 := Kg.heap_cell z6 3
  have x4 := Kg.heap_cell z6 4
  have x5 := Kg.heap_cell z6 5
  simp only [List.getElem?_toArray, List.getElem?_cons_zero, List.getElem?_cons_succ] at x0 x1 x2 x3 x4 x5
  clear hm6 HSf T1 T2 T3 T4 T5 T6 S6 s25 z6 jz t6 hS6 hHeld6 hHeld
  change Exit.then _ _ Exit.normal (Act.put _ none undef) _
  simp only [Act.put]
  go_wp2
  refine bodyPost_ret (by simp [results, Tryd.results4, go_sem, x0, x1, x2, x3, x4, x5]; try rfl) rfl ?_
  exact ⟨_, _, _, _, _, rfl, N5, S5, ⟨L1, L2, HLent.out⟩, HP6.out.1, HP6.out.2.1, HP6.out.2.2.1, HP6.out.2.2.2⟩

end Go.Proofs.YtckgcpoheodbcaaDoor

/-
  Images, a room as it is read; what stays.
-/
set_option linter.unusedVariables false
set_option maxRecDepth 20000
namespace Go.Proofs.YtckgcpoheodbcaaDoor
open Go.RowKit Go.Shelf

set_option maxHeartbeats 2000000 in
theorem roomHB_nil {w : World} {R : Nat} (h : w.cell? ⟨R, 0, none⟩ = some (.slice none 0 0)) :
    Calls Tryd.prog 20 #[.pointer (some ⟨R, 0, none⟩)] w fun e w' => e = .returned (.bool true) ∧ Below w.heap.size w w' := by
  have hR := World.block_lt_of_cell? _ _ h
  simp only at hR
  go_enter Tryd.func20, Tryd.ntmps20
  go_wp2
  refine wp_loop_rounds 1 ?_
  rw [rounds_succ]
  go_wp2
  go_returns
  exact ⟨rfl, by go_grown⟩

set_option maxHeartbeats 2000000 in
theorem roomHT_nil {w : World} {R : Nat} (h : w.cell? ⟨R, 3, none⟩ = some (.slice none 0 0)) :
    Calls Tryd.prog 23 #[.pointer (some ⟨R, 0, none⟩)] w fun e w' => e = .returned (.bool true) ∧ Below w.heap.size w w' := by
  have hR := World.block_lt_of_cell? _ _ h
  simp only at hR
  go_enter Tryd.func23, Tryd.ntmps23
  go_wp2
  refine wp_loop_rounds 1 ?_
  rw [rounds_succ]
  go_wp2
  go_returns
  exact ⟨rfl, by go_grown⟩

set_option maxHeartbeats 2000000 in
theorem roomHO_nil {w : World} {R : Nat} (h : w.cell? ⟨R, 4, none⟩ = some (.slice none 0 0)) :
    Calls Tryd.prog 24 #[.pointer (some ⟨R, 0, none⟩)] w fun e w' => e = .returned (.bool true) ∧ Below w.heap.size w w' := by
  have hR := World.block_lt_of_cell? _ _ h
  simp only at hR
  go_enter Tryd.func24, Tryd.ntmps24
  go_wp2
  refine wp_loop_rounds 1 ?_
  rw [rounds_succ]
  go_wp2
  go_returns
  exact ⟨rfl, by go_grown⟩

/-- A room's list of lists as it is read. -/
def Rw (w : World) (N : Nat → Nat) (E : List Value) (v : Value) : Prop :=
  ∃ a cap, v = .slice a E.length cap ∧ ∀ (i : Nat) u, E[i]? = some u → ∃ g, a = some ⟨g, 0, none⟩ ∧ g < w.heap.size ∧ N g = 0 ∧ w.cell? ⟨g, i, none⟩ = some u

/-- A room as it is read. -/
structure Rg (w : World) (R : Nat) (N : Nat → Nat) (S : RS) : Prop where
  l : R < w.heap.size
  z : N R = 0
  c : ∀ j, j < 8 → w.cell? ⟨R, j, none⟩ = (rmc S.v1 S.v2 S.v5 S.v6 S.v7)[j]?
  w1 : Rw w N S.E1 S.v1
  w2 : Rw w N S.E2 S.v2
  w5 : Rw w N S.E5 S.v5
  w6 : Rw w N S.E6 S.v6
  w7 : Rw w N S.E7 S.v7
  m1 : ∀ v, v ∈ S.E1 → Mk1 w N [] v
  m2 : ∀ v, v ∈ S.E2 → Mk2 w N [] v
  m5 : ∀ v, v ∈ S.E5 → Mk5 w N [] v
  m6 : ∀ v, v ∈ S.E6 → Mk6 w N [] v
  m7 : ∀ v, v ∈ S.E7 → Mk7 w N [] v
  t : S.tot ≤ 1000000000

theorem rw_of {w : World} {N : Nat → Nat} {n1 e : Nat} {v : Value} {E : List Value} (h : w.ownsRow n1 e 1 v E.length E) (hz : ∀ k, v.ownBlock = some k → N k = 0) : Rw w N E v := by
  obtain ⟨a, cap, h1, h2, h3⟩ := row_at (Kg.row_base h (Nat.zero_le _)) (by decide)
  refine ⟨a, cap, h1, fun i u hu => ?_⟩
  obtain ⟨g, h4, h5, h6⟩ := h3 i u hu
  exact ⟨g, h4, h5, hz g (by rw [h1, h4]; rfl), h6⟩

theorem Bd.rg {w : World} {n1 R : Nat} {N : Nat → Nat} {S : RS} (h : Bd w n1 R N S []) (ht : S.tot ≤ 1000000000) : Rg w R N S := by
  have s : Stp w w ([] ++ S.F R) [] N N := ⟨Kg.Touch.refl _ _, fun k hk => by simp at hk, fun _ _ _ => rfl⟩
  have z : ∀ k, k ∈ S.F R → N k = 0 := fun k hk => h.z k (List.mem_append_right _ hk)
  have f : ∀ k, (k = R ∨ S.v1.ownBlock = some k ∨ S.v2.ownBlock = some k ∨ S.v5.ownBlock = some k ∨ S.v6.ownBlock = some k ∨ S.v7.ownBlock = some k) → N k = 0 := fun k hk => z k (by simp only [RS.F, List.mem_cons, List.mem_append, Option.mem_toList]; exact hk)
  exact ⟨Kg.heap_lt h.r, f R (.inl rfl), fun j _ => Kg.heap_cell h.r j, rw_of h.o1 (fun k hk => f k (.inr (.inl hk))), rw_of h.o2 (fun k hk => f k (.inr (.inr (.inl hk)))), rw_of h.o5 (fun k hk => f k (.inr (.inr (.inr (.inl hk))))), rw_of h.o6 (fun k hk => f k (.inr (.inr (.inr (.inr (.inl hk)))))), rw_of h.o7 (fun k hk => f k (.inr (.inr (.inr (.inr (.inr hk)))))),
    fun v hv => (h.m1 v hv).stp s, fun v hv => (h.m2 v hv).stp s, fun v hv => (h.m5 v hv).stp s, fun v hv => (h.m6 v hv).stp s, fun v hv => (h.m7 v hv).stp s, ht⟩

/-- What lies behind the lists stays. -/
structure Keeps (w w' : World) (N : Nat → Nat) : Prop where
  s : w.heap.size ≤ w'.heap.size
  c : ∀ b f, b < w.heap.size → N b ≤ f → w'.cell? ⟨b, f, none⟩ = w.cell? ⟨b, f, none⟩

theorem Keeps.below {w w' : World} {N : Nat → Nat} (h : Below w.heap.size w w') : Keeps w w' N := ⟨h.size, fun b f hb _ => h.cell (p := ⟨b, f, none⟩) hb⟩
theorem Keeps.trans {w w' w'' : World} {N : Nat → Nat} (h : Keeps w w' N) (k : Keeps w' w'' N) : Keeps w w'' N := ⟨Nat.le_trans h.s k.s, fun b f hb hf => (k.c b f (Nat.lt_of_lt_of_le hb h.s) hf).trans (h.c b f hb hf)⟩
theorem Keeps.refl (w : World) (N : Nat → Nat) : Keeps w w N := ⟨Nat.le_refl _, fun _ _ _ _ => rfl⟩

section
variable {w w' : World} {N : Nat → Nat} {v : Value}
theorem Mk1.keep (h : Mk1 w N [] v) (k : Keeps w w' N) : Mk1 w' N [] v := by
  obtain ⟨b, c, h1, h2, h3, hb, h4⟩ := h
  exact ⟨b, c, h1, h2, Nat.lt_of_lt_of_le h3 k.s, hb, fun j hj => by rw [k.c b _ h3 (by omega)]; exact h4 j hj⟩
theorem Mk2.keep (h : Mk2 w N [] v) (k : Keeps w w' N) : Mk2 w' N [] v := by
  obtain ⟨b, c, h1, h2, h3, hb, h4⟩ := h
  exact ⟨b, c, h1, h2, Nat.lt_of_lt_of_le h3 k.s, hb, fun j hj => by rw [k.c b _ h3 (by omega)]; exact h4 j hj⟩
theorem Ml.keep {j : Nat} (h : Ml w N [] j v) (k : Keeps w w' N) : Ml w' N [] j v := by
  obtain ⟨b, c, h1, h2, h3, h4, h5⟩ := h
  exact ⟨b, c, h1, h2, Nat.lt_of_lt_of_le h3 k.s, h4, by rw [k.c b _ h3 (by omega)]; exact h5⟩
theorem Mm.keep {j : Nat} (h : Mm w N [] j v) (k : Keeps w w' N) : Mm w' N [] j v := by
  obtain ⟨b, c, h1, h2, h3, h4, u, h5, h6⟩ := h
  exact ⟨b, c, h1, h2, Nat.lt_of_lt_of_le h3 k.s, h4, u, by rw [k.c b _ h3 (by omega)]; exact h5, h6.keep k⟩
theorem Mk5.keep (h : Mk5 w N [] v) (k : Keeps w w' N) : Mk5 w' N [] v := by
  obtain ⟨b, c, h1, h2, h3, hb, h4⟩ := h
  refine ⟨b, c, h1, h2, Nat.lt_of_lt_of_le h3 k.s, hb, fun j hj => ?_⟩
  obtain ⟨u, h5, h6⟩ := h4 j hj
  exact ⟨u, by rw [k.c b _ h3 (by omega)]; exact h5, h6.keep k⟩
theorem Mk6.keep (h : Mk6 w N [] v) (k : Keeps w w' N) : Mk6 w' N [] v := by
  obtain ⟨b, c, h1, h2, h3, hb, h4⟩ := h
  refine ⟨b, c, h1, h2, Nat.lt_of_lt_of_le h3 k.s, hb, fun j hj => ?_⟩
  obtain ⟨u, h5, h6⟩ := h4 j hj
  exact ⟨u, by rw [k.c b _ h3 (by omega)]; exact h5, h6.keep k⟩
theorem Mk7.keep (h : Mk7 w N [] v) (k : Keeps w w' N) : Mk7 w' N [] v := by
  obtain ⟨b, c, n, h1, h0, h2, h3, hb, h4⟩ := h
  exact ⟨b, c, n, h1, h0, h2, Nat.lt_of_lt_of_le h3 k.s, hb, fun j hj i hi => by rw [k.c b _ h3 (by omega)]; exact h4 j hj i hi⟩
theorem Rw.keep {E : List Value} (h : Rw w N E v) (k : Keeps w w' N) : Rw w' N E v := by
  obtain ⟨a, cap, h1, h2⟩ := h
  refine ⟨a, cap, h1, fun i u hu => ?_⟩
  obtain ⟨g, h3, h4, h5, h6⟩ := h2 i u hu
  exact ⟨g, h3, Nat.lt_of_lt_of_le h4 k.s, h5, by rw [k.c g _ h4 (by omega)]; exact h6⟩
end

theorem Rg.keep {w w' : World} {R : Nat} {N : Nat → Nat} {S : RS} (h : Rg w R N S) (k : Keeps w w' N) : Rg w' R N S :=
  ⟨Nat.lt_of_lt_of_le h.l k.s, h.z, fun j hj => by rw [k.c R _ h.l (by rw [h.z]; omega)]; exact h.c j hj, h.w1.keep k, h.w2.keep k, h.w5.keep k, h.w6.keep k, h.w7.keep k, fun v hv => (h.m1 v hv).keep k, fun v hv => (h.m2 v hv).keep k, fun v hv => (h.m5 v hv).keep k, fun v hv => (h.m6 v hv).keep k, fun v hv => (h.m7 v hv).keep k, h.t⟩

end Go.Proofs.YtckgcpoheodbcaaDoor

