import Derived.Test.YtckgcpoheodbcaaGreatDoorQ15
set_option linter.unusedVariables false
set_option maxHeartbeats 8000000
set_option maxRecDepth 20000
namespace Go.Proofs.YtckgcpoheodbcaaGreatDoor
open Go.RowKit Go.Shelf
theorem infoO : (Tryz.prog.info? 61).map (fun i => (i.zero, i.size, i.bytes)) = some (some (.agg (ocs 0 0 0 (.slice none 0 0) (.slice none 0 0))), 5, 72) := by kernel_rfl
theorem infoOS : (Tryz.prog.info? 22).map (fun i => (i.zero, i.size, i.bytes)) = some (some (.slice none 0 0), 1, 24) := by kernel_rfl
theorem info_parts5 {o : Option TypeInfo} {z : Option Value} {s b : Nat} (h : o.map (fun i => (i.zero, i.size, i.bytes)) = some (z, s, b)) : ∃ i, o = some i ∧ i.zero = z ∧ i.size = s ∧ i.bytes = b := by
 cases o with
 | none => cases h
 | some i =>
  simp only [Option.map_some, Option.some.injEq, Prod.mk.injEq] at h
  exact ⟨i, rfl, h.1, h.2.1, h.2.2⟩
structure GotO (w : World) (N : Nat → Nat) (F : List Nat) (lo b : Nat) (v : Value) (L : List OL) : Prop where
 is : v = .slice (some ⟨b, 0, none⟩) L.length (L.length + 8)
 l : lo ≤ b
 lt : b < w.heap.size
 f : b ∉ F
 n : N b = L.length * 5
 c : ∀ (i : Nat) x, L[i]? = some x → (∀ j, j < 5 → w.cell? ⟨b, i * 5 + j, none⟩ = x.cells[j]?) ∧ PO lo w N F x
 fr : ∀ f, w.frozen? ⟨b, f, none⟩ = false
theorem GotO.stp {w w' : World} {N N' : Nat → Nat} {F F' : List Nat} {lo b : Nat} {v : Value} {L : List OL} (h : GotO w N F lo b v L) (s : Stp w w' F F' N N') : GotO w' N' F' lo b v L :=
 ⟨h.is, h.l, s.lt h.lt, s.out h.lt h.f, by rw [s.n b h.lt h.f]; exact h.n, fun i x hx => ⟨fun j hj => by rw [s.cell h.lt h.f]; exact (h.c i x hx).1 j hj, (h.c i x hx).2.stp s⟩, fun f => by rw [s.frozen h.lt h.f]; exact h.fr f⟩
theorem roomObjects_any {w : World} {n1 R : Nat} {N : Nat → Nat} {S : RS} {X : List Nat} (h : Bd w n1 R N S X) (n0 : Nat) (hn : n0 ≤ n1) (v : Value) (os : List OL) (hv : Ord n0 w v os) (hl : os.length ≤ 2000000) (hll : ∀ x, x ∈ os → x.o.ps.length ≤ 1073741824 ∧ x.o.rs.length ≤ 1073741824) (hT : S.tot + 2 * os.length ≤ 1000000000) (hn1 : n1 ≤ w.heap.size) :
  Calls Tryz.prog 14 #[.pointer (some ⟨R, 0, none⟩), v] w fun e w' => ∃ u, e = .returned u ∧ RPost n1 R N S X w w' (2 * os.length + 1) (fun w' N' F' => ∃ L b, L.map (·.o) = os.map (·.o) ∧ GotO w' N' F' n1 b u L) := by
 obtain ⟨i0, hi0, hj0, hj1, hj2⟩ := info_parts5 infoO
 have HI : Hid (Tryz.prog.info? 61 = some i0 ∧ i0.zero = some (.agg (ocs 0 0 0 (.slice none 0 0) (.slice none 0 0))) ∧ i0.size = 5 ∧ i0.bytes = 72) := ⟨hi0, hj0, hj1, hj2⟩
 have HBd : Hid (Bd w n1 R N S X) := h
 have HT : Hid (S.tot + 2 * os.length ≤ 1000000000) := hT
 have Hv : Hid (Ord n0 w v os) := hv
 have Hll : Hid (∀ x, x ∈ os → x.o.ps.length ≤ 1073741824 ∧ x.o.rs.length ≤ 1073741824) := hll
 obtain ⟨av, cp, rfl, -⟩ := hv
 clear hi0 hj0 hj1 hj2 h hT hll
 go_enter Tryz.func14, Tryz.ntmps14
 go_upto_region 2 with fail
 have H0 : Hid (Ino w (w.alloc (.cells #[] 61)) n1 R N N S S X (.slice (some ⟨w.heap.size, 0, none⟩) 0 0) [] 0) := Ino.start HBd.out
 obtain ⟨v0, hv0⟩ : ∃ v0, v0 = Value.slice (some ⟨w.heap.size, 0, none⟩) 0 0 := ⟨_, rfl⟩
 rw [← hv0] at H0 ⊢
 clear hv0
 generalize w.alloc (.cells #[] 61) = w0 at *
 go_wp2
 go_loopw [5, 6] (fun v5 v6 wr => ∃ (k : Nat) (N' : Nat → Nat) (S' : RS) (L : List OL), k ≤ os.length ∧ v6 = .int .i64 k ∧ Hid (L.length = k) ∧ Hid (L.map (·.o) = (os.take k).map (·.o)) ∧ Hid (Ino w wr n1 R N N' S S' X v5 L 0) ∧ Hid (S'.tot = S.tot + 2 * k)) (fun _ v6 _ => os.length - (intOf v6).toNat)
 case atStart => exact ⟨0, N, S, [], Nat.zero_le _, rfl, rfl, rfl, H0, rfl⟩
 case round =>
  obtain ⟨k, N', S', L, hk, rfl, HLk, HLd, Hi, Ht⟩ := hrel
  clear H0
  have hrow := Hi.out.row
  rw [Nat.add_zero, HLk.out, show mflat 0 = [] from rfl, List.append_nil] at hrow
  obtain ⟨al, cl, hvl⟩ := own_slI hrow
  subst hvl
  have Hrow : Hid (wr.ownsRow w.heap.size 61 5 (.slice al k cl) k (oflat L)) := hrow
  clear hrow
  have BW : Hid (Below n0 w wr) := Hi.out.tc.below (Nat.le_trans hn hn1) (fun q hq => Nat.le_trans hn (HBd.out.lt q hq).2)
  by_cases hkl : k < os.length
  ·have hkI : (k : Int) < (os.length : Int) := by omega
   have hak : os[k]? = some (os[k]'hkl) := List.getElem?_eq_getElem hkl
   generalize os[k]'hkl = x at hak
   have HCell : Hid (∀ w', Below n0 w w' → ∃ q off, av = some ⟨q, off, none⟩ ∧ ∀ j, j < 5 → w'.cell? ⟨q, off + k * 5 + j, none⟩ = x.cells[j]?) := fun w' b' => by
    obtain ⟨a', c', ea, hob⟩ := Hv.out.below b'
    cases ea
    obtain ⟨_, _, q, off, e, _, hc⟩ := hob k x hak
    exact ⟨q, off, e, hc⟩
   obtain ⟨a', c', ea, hob⟩ := Hv.out.below BW.out
   cases ea
   obtain ⟨hp, hr, q, off, rfl, hq, hc⟩ := hob k x hak
   have Hx : Hid (os[k]? = some x) := hak
   have Hxl := Hll.out x (List.mem_of_getElem? hak)
   have Hdw : Hid (Ino w wr.drew n1 R N N' S S' X (.slice al k cl) L 0) := Hi.out.below (Below.refl _ _).drew
   have hsub := roomInts_any Hdw.out.bd n0 (Nat.le_trans hn (Nat.le_trans hn1 Hdw.out.tc.size)) x.vp x.o.ps (hp.below (Below.refl _ _).drew) Hxl.1 (by have := HT.out; have := Ht.out; omega) (Nat.le_trans hn1 Hdw.out.tc.size)
   have HW : Hid (∀ w2 N2 S2, Ino w w2 n1 R N N2 S S2 X (.slice al k cl) L 0 → S2.tot = S'.tot + 1 → Calls Tryz.prog 36 #[.pointer (some ⟨R, 0, none⟩), x.vr] w2 fun e w' => ∃ u, e = .returned u ∧ RPost n1 R N2 S2 ((Value.slice al k cl).ownBlock.toList ++ X) w2 w' 1 (fun w' N' F' => ∃ b, Got w' N' F' n1 b .u64 u (x.o.rs.map Int.ofNat))) := fun w2 N2 S2 hI2 ht2 => by
    have b' : Below n0 w w2 := hI2.tc.below (Nat.le_trans hn hn1) (fun q hq => Nat.le_trans hn (HBd.out.lt q hq).2)
    obtain ⟨_, _, _, hob'⟩ := Hv.out.below b'
    exact roomWords_any hI2.bd n0 (Nat.le_trans hn (Nat.le_trans hn1 hI2.tc.size)) x.vr _ (hob' k x hak).2.1 (by rw [List.length_map]; exact Hxl.2) (by have := HT.out; have := Ht.out; omega) (Nat.le_trans hn1 hI2.tc.size)
   have HC5 : Hid (∀ w', Below n0 w w' → w'.cell? ⟨q, off + k * 5, none⟩ = some (.int .u64 x.o.ser) ∧ w'.cell? ⟨q, off + k * 5 + 1, none⟩ = some (.int .i64 x.o.kind) ∧ w'.cell? ⟨q, off + k * 5 + 2, none⟩ = some (.int .i64 x.o.site) ∧ w'.cell? ⟨q, off + k * 5 + 3, none⟩ = some x.vp ∧ w'.cell? ⟨q, off + k * 5 + 4, none⟩ = some x.vr) := fun w' b' => by
    obtain ⟨_, _, e, hc'⟩ := HCell.out w' b'
    cases e
    exact ⟨hc' 0 (by omega), hc' 1 (by omega), hc' 2 (by omega), hc' 3 (by omega), hc' 4 (by omega)⟩
   have HBn : Hid (∀ w2 N2 S2, Ino w w2 n1 R N N2 S S2 X (.slice al k cl) L 0 → Below n0 w w2) := fun w2 N2 S2 hI2 => hI2.tc.below (Nat.le_trans hn hn1) (fun q hq => Nat.le_trans hn (HBd.out.lt q hq).2)
   obtain ⟨ap, cap', ep, -⟩ := hp
   obtain ⟨ar, car, er, -⟩ := hr
   have hrl : (x.o.rs.map Int.ofNat).length = x.o.rs.length := List.length_map _
   rw [hrl] at er
   rw [ep, er] at HC5
   rw [ep] at hsub
   rw [er] at HW
   obtain ⟨c0, c1, c2, c3, c4⟩ := HC5.out wr BW.out
   clear hob hak ep er hrl hc HCell Hi BW
   go_upto_region 5 with fail
   go_region_held3 (fun w' => w'.cell? ⟨q, off + k * 5, none⟩ = some (.int .u64 x.o.ser) ∧ w'.cell? ⟨q, off + k * 5 + 1, none⟩ = some (.int .i64 x.o.kind) ∧ w'.cell? ⟨q, off + k * 5 + 2, none⟩ = some (.int .i64 x.o.site) ∧ w'.cell? ⟨q, off + k * 5 + 3, none⟩ = some (.slice ap x.o.ps.length cap') ∧ w'.cell? ⟨q, off + k * 5 + 4, none⟩ = some (.slice ar x.o.rs.length car)) (first | (exact And.intro ‹_› (And.intro ‹_› (And.intro ‹_› (And.intro ‹_› ‹_›)))) | go_keep) (first | (go_at_call 16; refine hsub.mono ?_; rintro e w2 ⟨u, rfl, hpost⟩; obtain ⟨N2, S2, hI2, ⟨b2, hG2⟩, ht2, hs2⟩ := Hdw.out.sub hpost; have hu2 := hG2.is; subst hu2; obtain ⟨d0, d1, d2, d3, d4⟩ := HC5.out w2 (HBn.out _ _ _ hI2); have hw := HW.out w2 N2 S2 hI2 ht2) | (go_at_call 36; refine hw.mono ?_; rintro e w3 ⟨u3, rfl, hpost3⟩; obtain ⟨N3, S3, hI3, ⟨b3, hG3⟩, ht3, hs3⟩ := hI2.sub hpost3; have hu3 := hG3.is; rw [List.length_map] at hu3; subst hu3; have hB3 : Below w3.heap.size w3 (w3.alloc (.cells (ocs x.o.ser x.o.kind x.o.site (.slice (some ⟨b2, 0, none⟩) x.o.ps.length (x.o.ps.length + 40)) (.slice (some ⟨b3, 0, none⟩) x.o.rs.length (x.o.rs.length + 40))) 61)) := Below.alloc (Below.refl _ _) (Nat.le_refl _) _; have hI4 := hI3.below hB3; have hr4 := hI4.row; rw [Nat.add_zero, HLk.out, show mflat 0 = [] from rfl, List.append_nil] at hr4; obtain ⟨e0, e1, e2, e3, e4⟩ := HC5.out w3 (HBn.out _ _ _ hI3)) | (refine step_append_own_at rfl (.tmp 15) (.tmp 46) 22 rfl w.heap.size 61 i0 (.agg (ocs 0 0 0 (.slice none 0 0) (.slice none 0 0))) 5 72 Tryz.underlying22 HI.out.1 HI.out.2.1 HI.out.2.2.1 HI.out.2.2.2 rfl (by decide) (.slice al k cl) k (oflat L) rfl hr4 ⟨w3.heap.size, 0, none⟩ 1 1 (ocs x.o.ser x.o.kind x.o.site (.slice (some ⟨b2, 0, none⟩) x.o.ps.length (x.o.ps.length + 40)) (.slice (some ⟨b3, 0, none⟩) x.o.rs.length (x.o.rs.length + 40))).toList rfl rfl (cells_new w3 (ocs x.o.ser x.o.kind x.o.site (.slice (some ⟨b2, 0, none⟩) x.o.ps.length (x.o.ps.length + 40)) (.slice (some ⟨b3, 0, none⟩) x.o.rs.length (x.o.rs.length + 40))) 61) (by simp [Value.oneCell']) (by simp only [maxLen]; omega) (by omega) hI4.tc.size ?_; intro v' w8 hown' hgrow hat; have t8 := Kg.Touch.grown (F := (Value.slice al k cl).ownBlock.toList) hgrow (fun y hy => by rw [Option.mem_toList]; exact hy); obtain ⟨f0, f1, f2, f3, f4⟩ := HC5.out w8 ((HBn.out _ _ _ hI4).trans (t8.below (Nat.le_trans (Nat.le_trans hn hn1) hI4.tc.size) (fun y hy => by rw [Option.mem_toList] at hy; exact Nat.le_trans (Nat.le_trans hn hn1) (hr4.lt y hy).1)))))
   have hpo : PO n1 (w3.alloc (.cells (ocs x.o.ser x.o.kind x.o.site (.slice (some ⟨b2, 0, none⟩) x.o.ps.length (x.o.ps.length + 40)) (.slice (some ⟨b3, 0, none⟩) x.o.rs.length (x.o.rs.length + 40))) 61)) N3 (((Value.slice al k cl).ownBlock.toList ++ X) ++ S3.F R) (⟨x.o, .slice (some ⟨b2, 0, none⟩) x.o.ps.length (x.o.ps.length + 40), .slice (some ⟨b3, 0, none⟩) x.o.rs.length (x.o.rs.length + 40)⟩ : OL) := PO.stp ⟨⟨b2, hG2.stp hs3⟩, b3, by have h9 := hG3; exact h9⟩ (Stp.below hB3)
   have HI8 : Hid (Ino w w8 n1 R N N3 S S3 X v' (L ++ [(⟨x.o, .slice (some ⟨b2, 0, none⟩) x.o.ps.length (x.o.ps.length + 40), .slice (some ⟨b3, 0, none⟩) x.o.rs.length (x.o.rs.length + 40)⟩ : OL)]) 0) := hI4.grow t8 hat (by
    rw [oflat_snoc, show mflat 0 = [] from rfl, List.append_nil, Nat.add_zero, List.length_append, HLk.out]
    exact hown') (fun y hy => by
     rcases List.mem_append.1 hy with h1 | h1
     ·exact .inl h1
     ·rw [List.mem_singleton] at h1
      rw [h1]
      exact .inr hpo)
   have HL8 : Hid ((L ++ [(⟨x.o, .slice (some ⟨b2, 0, none⟩) x.o.ps.length (x.o.ps.length + 40), .slice (some ⟨b3, 0, none⟩) x.o.rs.length (x.o.rs.length + 40)⟩ : OL)]).length = k + 1) := by show _ = _; rw [List.length_append, HLk.out]; rfl
   have Hd8 : Hid ((L ++ [(⟨x.o, .slice (some ⟨b2, 0, none⟩) x.o.ps.length (x.o.ps.length + 40), .slice (some ⟨b3, 0, none⟩) x.o.rs.length (x.o.rs.length + 40)⟩ : OL)]).map (·.o) = (os.take (k + 1)).map (·.o)) := by
    show _ = _
    rw [take_snocL Hx.out, List.map_append, List.map_append, HLd.out]
    rfl
   have Ht8 : Hid (S3.tot = S.tot + 2 * (k + 1)) := by have := Ht.out; show _ = _; omega
   clear hown' hgrow hat t8 hpo hI4 hr4 hB3 hI3 hG3 hs3 ht3 hG2 hs2 ht2 hI2 hpost hpost3 hsub hw HW Hdw
   go_wp2
   go_roundw
   case rel => exact ⟨k + 1, N3, S3, _, by omega, by go_num, HL8, Hd8, HI8, Ht8⟩
   case measure => simp [intOf]; omega
  ·have hkn : ¬ (k : Int) < (os.length : Int) := by omega
   have HLk2 : Hid (L.map (·.o) = os.map (·.o)) := by have h9 := HLd.out; rw [List.take_of_length_le (by omega)] at h9; exact h9
   have HLl : Hid (L.length = os.length) := by have h9 := HLk.out; show _ = _; omega
   have Ht0 : Hid (S'.tot = S.tot + 2 * os.length) := by have h9 := Ht.out; show _ = _; omega
   have HI0 : Hid (Ino w wr n1 R N N' S S' X (.slice al k cl) L 0) := Hi
   clear Hi Hrow Ht HLd BW
   go_wp2
   go_loopw [5, 7] (fun v5 v7 w3 => ∃ (m : Nat), m ≤ 4 ∧ v7 = .int .i64 (2 * (m : Int)) ∧ Hid (Ino w w3 n1 R N N' S S' X v5 L (2 * m))) (fun _ v7 _ => 8 - (intOf v7).toNat)
   case atStart => exact ⟨0, Nat.zero_le _, rfl, HI0⟩
   case round =>
    obtain ⟨m, hm, rfl, Hi⟩ := hrel
    clear HI0
    obtain ⟨M, hM⟩ : ∃ M, M = L.length + 2 * m := ⟨_, rfl⟩
    have HM : Hid (M = L.length + 2 * m ∧ M = os.length + 2 * m) := ⟨hM, by rw [hM, HLl.out]⟩
    have hrow := Hi.out.row
    rw [← hM] at hrow
    obtain ⟨al2, cl2, hvl⟩ := own_slI hrow
    subst hvl
    clear hM
    by_cases hml : m < 4
    ·have hmI : 2 * (m : Int) < 8 := by omega
     have bM : Below wr.heap.size wr (wr.alloc (.cells #[.int .u64 0, .int .i64 (-7701), .int .i64 0, .slice none 0 0, .slice none 0 0, .int .u64 0, .int .i64 (-7702), .int .i64 0, .slice none 0 0, .slice none 0 0] 61)) := Below.alloc (Below.refl _ _) (Nat.le_refl _) _
     have hI3 := Hi.out.below bM
     have hr3 := hI3.row
     rw [← HM.out.1] at hr3
     have Hrow3 := (show Hid _ from hr3)
     have HI3 := (show Hid _ from hI3)
     have Hsz := (show Hid _ from hI3.tc.size)
     have hM2 : M ≤ 2000008 := by have := HM.out.2; omega
     clear hrow hI3 hr3 bM
     go_wp2_with (at_builtin; refine wpList_append_own_at _ rfl _ _ 22 rfl w.heap.size 61 i0 (.agg (ocs 0 0 0 (.slice none 0 0) (.slice none 0 0))) 5 72 Tryz.underlying22 HI.out.1 HI.out.2.1 HI.out.2.2.1 HI.out.2.2.2 rfl (by decide) _ _ _ rfl Hrow3.out ⟨wr.heap.size, 0, none⟩ 2 2 (#[.int .u64 0, .int .i64 (-7701), .int .i64 0, .slice none 0 0, .slice none 0 0, .int .u64 0, .int .i64 (-7702), .int .i64 0, .slice none 0 0, .slice none 0 0] : Array Value).toList rfl rfl (cells_new wr _ _) (by simp [Value.oneCell']) (by simp only [maxLen]; omega) (by omega) Hsz.out ?_; intro v' w8 hown' hgrow _ hat)
     have t8 := Kg.Touch.grown (F := (Value.slice al2 M cl2).ownBlock.toList) hgrow (fun y hy => by rw [Option.mem_toList]; exact hy)
     have HI8 : Hid (Ino w w8 n1 R N N' S S' X v' L (2 * (m + 1))) := HI3.out.grow t8 hat (by
      have e1 : mrk (2 * m) = -7701 := by unfold mrk; rw [if_pos (by omega)]
      have e2 : mrk (2 * m + 1) = -7702 := by unfold mrk; rw [if_neg (by omega)]
      have e3 : L.length + 2 * (m + 1) = M + 2 := by have := HM.out.1; omega
      have e4 : (mob (2 * m)).toList ++ (mob (2 * m + 1)).toList = (#[.int .u64 0, .int .i64 (-7701), .int .i64 0, .slice none 0 0, .slice none 0 0, .int .u64 0, .int .i64 (-7702), .int .i64 0, .slice none 0 0, .slice none 0 0] : Array Value).toList := by
       show (ocs 0 (mrk (2 * m)) 0 (.slice none 0 0) (.slice none 0 0)).toList ++ (ocs 0 (mrk (2 * m + 1)) 0 (.slice none 0 0) (.slice none 0 0)).toList = _
       rw [e1, e2]
       rfl
      rw [e3, show 2 * (m + 1) = 2 * m + 2 by omega, mflat_two, e4, ← List.append_assoc]
      exact hown') (fun y hy => .inl hy)
     exact ⟨⟨m + 1, by omega, by congr 1, HI8⟩, by simp [intOf]; omega⟩
    ·have Hme : Hid (m = 4) := by show _ = _; omega
     have hmI : ¬ 2 * (m : Int) < 8 := by omega
     obtain ⟨Y, c3, hY⟩ := Kg.ownsRow_some hrow (by have := HM.out; omega)
     have HM8 : Hid (M = L.length + 8) := by have := HM.out; have := Hme.out; show _ = _; omega
     rw [hY] at hrow Hi ⊢
     have hcap : M ≤ c3 := own_cap hrow
     have hYl := hrow.lt Y rfl
     have hYX : Y ∉ X := fun hx => by have := (HBd.out.x Y hx).1; omega
     have hfin := Ino.fin (b := Y) (c := c3) (by rw [← HM8.out]; have h9 := Hi.out; rw [show 2 * m = 8 by have := Hme.out; omega] at h9; exact h9) hYX hn1
     obtain ⟨g1, g2, g3, g4, g5, g6, g7, g8, g9⟩ := hfin
     have hG : GotO wr (upN N' Y (L.length * 5)) (X ++ S'.F R) n1 Y (.slice (some ⟨Y, 0, none⟩) L.length (L.length + 8)) L := ⟨rfl, g5, g3, g4, g6, g7, g9⟩
     have he : Mk7 wr (upN N' Y (L.length * 5)) (X ++ S'.F R) (.slice (some ⟨Y, 0, none⟩) M c3) := ⟨Y, c3, L.length, by rw [HM8.out], g6, g4, g3, by rw [g6, HLl.out]; omega, g8⟩
     obtain ⟨i1, hi1, hk0, hk1, hk2⟩ := info_parts infoOS
     have HJ : Hid (Tryz.prog.info? 22 = some i1 ∧ i1.zero = some (.slice none 0 0) ∧ i1.size = 1 ∧ i1.bytes = 24) := ⟨hi1, hk0, hk1, hk2⟩
     have bB : Below wr.heap.size wr (wr.alloc (.cells #[.slice (some ⟨Y, 0, none⟩) M c3] 22)) := Below.alloc (Below.refl _ _) (Nat.le_refl _) _
     have hB := g1.below bB
     have HeB : Hid (Mk7 (wr.alloc (.cells #[.slice (some ⟨Y, 0, none⟩) M c3] 22)) (upN N' Y (L.length * 5)) (X ++ S'.F R) (.slice (some ⟨Y, 0, none⟩) M c3)) := he.stp (Stp.below bB)
     have HGB : Hid (GotO (wr.alloc (.cells #[.slice (some ⟨Y, 0, none⟩) M c3] 22)) (upN N' Y (L.length * 5)) (X ++ S'.F R) n1 Y (.slice (some ⟨Y, 0, none⟩) L.length (L.length + 8)) L) := hG.stp (Stp.below bB)
     have HBB : Hid (Bd (wr.alloc (.cells #[.slice (some ⟨Y, 0, none⟩) M c3] 22)) n1 R (upN N' Y (L.length * 5)) S' X) := hB
     have HS1 : Hid (Stp w (wr.alloc (.cells #[.slice (some ⟨Y, 0, none⟩) M c3] 22)) (X ++ S.F R) (X ++ S'.F R) N (upN N' Y (L.length * 5)) ∧ Kg.Touch (S.F R) w (wr.alloc (.cells #[.slice (some ⟨Y, 0, none⟩) M c3] 22)) ∧ ∀ q, q ∈ S'.F R → q ∈ S.F R ∨ w.heap.size ≤ q) := ⟨g2.trans (Stp.below bB), Hi.out.tc.trans (Kg.Touch.of_below bB _), fun q hq => by
      rcases Hi.out.st.f q (List.mem_append_right _ hq) with h6 | h6
      ·rcases List.mem_append.1 h6 with h7 | h7
       ·exact absurd hq (g1.x q h7).2
       ·exact .inl h7
      ·exact .inr h6⟩
     have r1 : wr.cell? ⟨R, 7, none⟩ = some S'.v7 := Kg.heap_cell g1.r 7
     obtain ⟨ag, cg, eg⟩ := own_slI g1.o7
     have HRn : Hid (∀ k, S'.v7.ownBlock = some k → k ≠ R) := fun k hk e => by
      obtain ⟨c, h3⟩ := own_blk hB.o7 hk
      rw [e, hB.r] at h3
      cases h3
     have Hown : Hid ((wr.alloc (.cells #[.slice (some ⟨Y, 0, none⟩) M c3] 22)).ownsRow n1 22 1 (.slice ag S'.E7.length cg) S'.E7.length S'.E7) := by rw [← eg]; exact hB.o7
     have Hel : Hid (S'.E7.length ≤ 1000000000) := by
      have h1 := HT.out
      have h2 := Ht0.out
      have h3 : S'.E7.length ≤ S'.tot := by unfold RS.tot; omega
      show _ ≤ _
      omega
     have Heg : Hid (S'.v7 = .slice ag S'.E7.length cg) := eg
     have Hbs : Hid (n1 ≤ wr.heap.size) := Nat.le_trans hn1 Hi.out.tc.size
     rw [eg] at r1
     clear hi1 hk0 hk1 hk2 hY he bB hB eg Hi hrow g1 g2 g3 g4 g5 g6 g7 g8 g9 hG hYl
     go_upto_region 11 with (at_builtin; refine wpList_append_own_at _ rfl _ _ 35 rfl n1 22 i1 (.slice none 0 0) 1 24 Tryz.underlying35 HJ.out.1 HJ.out.2.1 HJ.out.2.2.1 HJ.out.2.2.2 rfl (by decide) _ _ _ rfl Hown.out ⟨wr.heap.size, 0, none⟩ 1 1 [(.slice (some ⟨Y, 0, none⟩) M c3)] rfl rfl (cell_one_new _ _ _) (by simp [Value.oneCell']) (by have := Hel.out; simp [maxLen]; omega) (by have := Hel.out; omega) (by have := Hbs.out; simp; omega) ?_; intro v' w8 hown' hgrow _ hat; obtain ⟨Z, cz, hZ⟩ := Kg.ownsRow_some hown' (Nat.succ_pos _); subst hZ; have Hat : Hid ((Value.slice (some ⟨Z, 0, none⟩) (S'.E7.length + 1) cz).ownBlock = S'.v7.ownBlock ∨ (Value.slice (some ⟨Z, 0, none⟩) (S'.E7.length + 1) cz).ownBlock = some (wr.alloc (.cells #[.slice (some ⟨Y, 0, none⟩) M c3] 22)).heap.size) := (by rw [Heg.out]; exact hat); clear hat; have hblk : w8.heap[R]? = some (.cells (rmc S'.v1 S'.v2 S'.v5 S'.v6 S'.v7) 37 (0, 0)) := (hgrow.block R (Kg.heap_lt HBB.out.r) (fun e => HRn.out R (by rw [Heg.out]; exact e.symm) rfl)).trans HBB.out.r; have r8 : w8.cell? ⟨R, 7, none⟩ = some S'.v7 := Kg.heap_cell hblk 7; have f8 : w8.frozen? ⟨R, 7, none⟩ = false := Kg.heap_frozen hblk 7; clear hblk)
     have t8 : Kg.Touch S'.v7.ownBlock.toList (wr.alloc (.cells #[.slice (some ⟨Y, 0, none⟩) M c3] 22)) w8 := Kg.Touch.grown hgrow (fun y hy => by rw [Option.mem_toList, Heg.out]; exact hy)
     have hP := HBB.out.put7 HeB.out hown' t8 Hat.out
     have HP : Hid (Bd (w8.setCell ⟨R, 7, none⟩ (.slice (some ⟨Z, 0, none⟩) (S'.E7.length + 1) cz)) n1 R (upN N' Y (L.length * 5)) (S'.put7 (.slice (some ⟨Z, 0, none⟩) (S'.E7.length + 1) cz) (.slice (some ⟨Y, 0, none⟩) M c3)) X ∧ Stp w (w8.setCell ⟨R, 7, none⟩ (.slice (some ⟨Z, 0, none⟩) (S'.E7.length + 1) cz)) (X ++ S.F R) (X ++ (S'.put7 (.slice (some ⟨Z, 0, none⟩) (S'.E7.length + 1) cz) (.slice (some ⟨Y, 0, none⟩) M c3)).F R) N (upN N' Y (L.length * 5)) ∧ Kg.Touch (S.F R) w (w8.setCell ⟨R, 7, none⟩ (.slice (some ⟨Z, 0, none⟩) (S'.E7.length + 1) cz))) := ⟨hP.1, HS1.out.1.trans hP.2.1, HS1.out.2.1.then hP.2.2.t HS1.out.2.2⟩
     have HG : Hid (GotO (w8.setCell ⟨R, 7, none⟩ (.slice (some ⟨Z, 0, none⟩) (S'.E7.length + 1) cz)) (upN N' Y (L.length * 5)) (X ++ (S'.put7 (.slice (some ⟨Z, 0, none⟩) (S'.E7.length + 1) cz) (.slice (some ⟨Y, 0, none⟩) M c3)).F R) n1 Y (.slice (some ⟨Y, 0, none⟩) L.length (L.length + 8)) L) := HGB.out.stp hP.2.1
     clear hown' hgrow Hat t8 r8 f8 r1 HJ hP HBB HeB HS1 Hown HRn Hel Heg HGB
     generalize w8.setCell ⟨R, 7, none⟩ (.slice (some ⟨Z, 0, none⟩) (S'.E7.length + 1) cz) = w9 at *
     have hM8 := HM8.out
     rw [HLl.out] at hM8
     rw [HLl.out] at HG HP
     subst hM8
     go_wp2
     go_ret
     exact ⟨_, rfl, _, _, ⟨L, HLk2.out, _, HG.out⟩, HP.out.1, HP.out.2.1, HP.out.2.2, by have := Ht0.out; simp only [RS.tot, RS.put7, List.length_append, List.length_singleton] at this ⊢; omega⟩
end Go.Proofs.YtckgcpoheodbcaaGreatDoor
