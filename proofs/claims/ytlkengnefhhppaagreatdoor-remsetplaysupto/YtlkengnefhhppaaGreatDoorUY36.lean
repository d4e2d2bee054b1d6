import Derived.Test.YtlkengnefhhppaaGreatDoorPYi
import Derived.Test.YtlkengnefhhppaaGreatDoorPYh
import Derived.Test.YtlkengnefhhppaaGreatDoorPYb
import Derived.Test.YtlkengnefhhppaaGreatDoorUY11
set_option linter.unusedVariables false
set_option maxHeartbeats 8000000
set_option maxRecDepth 20000
namespace Go.Proofs.YtlkengnefhhppaaGreatDoor
open Go.RowKit Go.Shelf
abbrev kcfg : Cfg := ⟨64, 64, 64, 40, 0, 1, 1, 50, 3, 1, 4, 0, 0, 1⟩
theorem kcfg_ok : kcfg.Ok := by constructor <;> decide
abbrev kT1 (q : Nat) : LT := ⟨4, 1, 1, 0, 0, 0, 0, false, .slice (some ⟨q, 0, none⟩) 2 2, .slice none 0 0, 0, [0, 0], [], 0⟩
abbrev kT2 : LT := ⟨1, 2, 1, 0, 0, 0, 0, false, .slice none 0 0, .slice none 0 0, 0, [], [], 0⟩
abbrev kcells (q : Nat) : Array Value := #[.int .i64 4, .int .u64 1, .int .i64 1, .int .i64 0, .int .i64 0, .int .i64 0, .int .i64 0, .bool false, .slice (some ⟨q, 0, none⟩) 2 2, .slice none 0 0, .int .i64 0, .int .i64 1, .int .u64 2, .int .i64 1, .int .i64 0, .int .i64 0, .int .i64 0, .int .i64 0, .bool false, .slice none 0 0, .slice none 0 0, .int .i64 0]
theorem in4 (a : Int) (h : 0 ≤ a ∧ a ≤ 100) : InI a := by unfold InI; omega
theorem known_lay {q : Nat} {L : List LT} (hl : L.length = 2) (H : Lk kcfg [kT1 q, kT2] L) : ∃ U V, L = [U, V] ∧ U.at_ = 193 ∧ U.sp = 4 ∧ U.fill = 0 ∧ U.ps.length = 2 ∧ V.at_ = 1 ∧ V.sp = 1 ∧ V.fill = 0 := by
 match L, hl with
 | [U, V], _ =>
  have f1 := H.fx 0 (kT1 q) U rfl rfl
  have f2 := H.fx 1 kT2 V rfl rfl
  have s1 : U.sp = 4 := f1.sp.trans (by show (1 + amg (wrap64 (4 - 1)) 4 : Int) = 4; decide +kernel)
  have l1 : U.fill = 0 := f1.fill.trans (if_neg (by show ¬ (0 : Int) < 0; decide))
  have p1 : U.ps.length = 2 := f1.ps.trans (by simp)
  have r1 : U.rs.length = 0 := f1.rs.trans (by simp)
  have z1 : U.sz = 4 := by unfold LT.sz; rw [if_neg (by omega), p1, r1]; rfl
  have a1 : U.at_ = 193 := by
   have h := f1.at_
   rw [s1, z1] at h
   exact h.trans (by show (if (tops0 kcfg).top 4 + 4 ≤ bhd kcfg 4 then (tops0 kcfg).top 4 else 0 : Int) = 193; decide +kernel)
  have s2 : V.sp = 1 := f2.sp.trans (by show (1 + amg (wrap64 (1 - 1)) 4 : Int) = 1; decide +kernel)
  have l2 : V.fill = 0 := f2.fill.trans (if_neg (by decide))
  have p2 : V.ps.length = 0 := f2.ps.trans (by simp)
  have r2 : V.rs.length = 0 := f2.rs.trans (by simp)
  have z2 : V.sz = 2 := by unfold LT.sz; rw [if_neg (by omega), p2, r2]; rfl
  have t2 : tps kcfg ([U, V].take 1) = (tops0 kcfg).put 4 197 := by
   show stp (tops0 kcfg) U = _
   unfold stp
   rw [if_neg (by omega), s1, z1]
   rfl
  have a2 : V.at_ = 1 := by
   have h := f2.at_
   rw [t2, s2, z2] at h
   exact h.trans (by decide +kernel)
  exact ⟨U, V, rfl, a1, s1, l1, p1, a2, s2, l2⟩
theorem Rm.start {w1 w w' : World} {n1 b g : Nat} {c : Cfg} {x : Tps} {ws : Nat → Int} {th : List Tng} (hB : Bq w1 n1 w b g c x false ws th) (hn : n1 ≤ w1.heap.size) (hr : Rs w' (w.heap.size + 1) b (.slice none 0 0) [] w.heap.size 0 (fun _ => false)) (l : Below w.heap.size w w') : Rm w1 n1 w' (w.heap.size + 1) b g w.heap.size (.slice none 0 0) c x false ws th [] 0 (fun a => decide (a ∈ ([] : List Int))) := by
 have hs := hB.be.size
 have h : Rm w1 n1 w' (w.heap.size + 1) b g w.heap.size (.slice none 0 0) c x false ws th [] 0 (fun _ => false) := ⟨hB.below hn l, hr, by omega, by omega, fun q hq => by simp [Value.ownBlock] at hq, hn⟩
 exact h.congr (fun a _ => by simp)
theorem known6_any (w : World) (hL : Laid w) : Calls Tryz.prog 4 #[] w fun e w' => e = .returned (.bool true) ∧ Below w.heap.size w w' := by
 have HLa : Hid (Laid w) := hL
 clear hL
 go_enter Tryz.func4, Tryz.ntmps4
 go_upto_region 2 with fail
 have p0 := Pd.new w kcfg (.slice none 0 0)
 have b0 : Below w.heap.size w (w.alloc (.cells (pcells kcfg (.slice none 0 0)) 26)) := Below.alloc (Below.refl _ _) (Nat.le_refl _) _
 obtain ⟨v1, hv1⟩ : ∃ v1, v1 = w.alloc (.cells (pcells kcfg (.slice none 0 0)) 26) := ⟨_, rfl⟩
 obtain ⟨B, hB⟩ : ∃ B, B = w.heap.size := ⟨_, rfl⟩
 show Code.wp _ _ _ _ (w.alloc (.cells (pcells kcfg (.slice none 0 0)) 26))
 rw [← hv1] at p0 b0 ⊢
 rw [← hB] at p0 ⊢
 have HP : Hid (Pd v1 B kcfg (.slice none 0 0)) := p0
 have HB0 : Hid (Below w.heap.size w v1) := b0
 have HBe : Hid (B = w.heap.size) := hB
 clear p0 b0 hv1 hB
 have k14 : v1.cell? ⟨B, 14, none⟩ = some (.slice none 0 0) := HP.out.cell 14
 have f14 := HP.out.frozen 14
 have hBl : B < v1.heap.size := HP.out.lt
 go_upto_region 3 with fail
 obtain ⟨Q, hQ⟩ : ∃ Q, Q = v1.heap.size := ⟨_, rfl⟩
 have hset := HP.out.set (.slice (some ⟨v1.heap.size + 1, 0, none⟩) 2 2)
 have bs0 : Below w.heap.size w (v1.setCell ⟨B, 14, none⟩ (.slice (some ⟨v1.heap.size + 1, 0, none⟩) 2 2)) := Below.setCell (p := ⟨B, 14, none⟩) HB0.out (by have := HBe.out; simp only; omega) _
 have hsz : (v1.setCell ⟨B, 14, none⟩ (.slice (some ⟨v1.heap.size + 1, 0, none⟩) 2 2)).heap.size = v1.heap.size := by simp [World.setCell]
 generalize v1.setCell ⟨B, 14, none⟩ (.slice (some ⟨v1.heap.size + 1, 0, none⟩) 2 2) = v2 at hset bs0 hsz ⊢
 rw [← hQ] at hset hsz ⊢
 have hq1 : ((v2.alloc (.cells #[.int .i64 0, .int .i64 0] 3)).alloc (.cells (kcells Q) 41)).heap[Q]? = some (.cells #[.int .i64 0, .int .i64 0] 3 (0, 0)) := by
  rw [Below.heap_alloc _ _ _ (by simp; omega), ← hsz]
  exact heap_alloc_new v2 _
 have hq2 : ((v2.alloc (.cells #[.int .i64 0, .int .i64 0] 3)).alloc (.cells (kcells Q) 41)).heap[Q + 1]? = some (.cells (kcells Q) 41 (0, 0)) := by
  have h := heap_alloc_new (v2.alloc (.cells #[.int .i64 0, .int .i64 0] 3)) (.cells (kcells Q) 41 (0, 0))
  have e : (v2.alloc (.cells #[.int .i64 0, .int .i64 0] 3)).heap.size = Q + 1 := by simp; omega
  rw [e] at h
  exact h
 have bA : Below v2.heap.size v2 ((v2.alloc (.cells #[.int .i64 0, .int .i64 0] 3)).alloc (.cells (kcells Q) 41)) := Below.alloc (Below.alloc (Below.refl _ _) (Nat.le_refl _) _) (by simp) _
 have HP3 : Hid (Pd ((v2.alloc (.cells #[.int .i64 0, .int .i64 0] 3)).alloc (.cells (kcells Q) 41)) B kcfg (.slice (some ⟨Q + 1, 0, none⟩) 2 2)) := hset.below bA
 have HB3 : Hid (Below w.heap.size w ((v2.alloc (.cells #[.int .i64 0, .int .i64 0] 3)).alloc (.cells (kcells Q) 41))) := bs0.trans (bA.mono bs0.size)
 show Code.wp _ _ _ _ ((v2.alloc (.cells #[.int .i64 0, .int .i64 0] 3)).alloc (.cells (kcells Q) 41))
 generalize (v2.alloc (.cells #[.int .i64 0, .int .i64 0] 3)).alloc (.cells (kcells Q) 41) = v3 at hq1 hq2 HP3 HB3 ⊢
 have hlQ : Q + 1 < v3.heap.size := (Array.getElem?_eq_some_iff.1 hq2).1
 have hprd : Prd v3.heap.size v3 (.slice (some ⟨Q + 1, 0, none⟩) [kT1 Q, kT2].length 2) [kT1 Q, kT2] := ⟨some ⟨Q + 1, 0, none⟩, 2, rfl, fun i o ho => by
  have hnil : Lrd v3.heap.size v3 (.slice none 0 0) .u64 [] := ⟨none, 0, rfl, Nat.le_refl _, fun f z h => by simp at h⟩
  have hnil2 : Lrd v3.heap.size v3 (.slice none 0 0) .i64 [] := ⟨none, 0, rfl, Nat.le_refl _, fun f z h => by simp at h⟩
  match i with
  | 0 =>
   simp only [List.getElem?_cons_zero, Option.some.injEq] at ho
   subst ho
   refine ⟨⟨in4 _ (by simp), in4 _ (by simp), in4 _ (by simp), in4 _ (by simp), in4 _ (by simp), (by unfold Wd; simp), fun z h => by simp at h⟩, ⟨some ⟨Q, 0, none⟩, 2, rfl, Nat.le_refl _, fun f z hz => ⟨Q, 0, rfl, by omega, ?_⟩⟩, hnil, Q + 1, 0, rfl, hlQ, fun j hj => ?_⟩
   ·rw [cell_of_row _ _ (0 + f) _ _ _ hq1]
    match f, hz with
    | 0, hz | 1, hz => simpa using hz
   ·rw [cell_of_row _ _ (0 + 0 * 11 + j) _ _ _ hq2]
    match j, hj with
    | 0, _ | 1, _ | 2, _ | 3, _ | 4, _ | 5, _ | 6, _ | 7, _ | 8, _ | 9, _ | 10, _ => rfl
  | 1 =>
   simp only [List.getElem?_cons_succ, List.getElem?_cons_zero, Option.some.injEq] at ho
   subst ho
   refine ⟨⟨in4 _ (by simp), in4 _ (by simp), in4 _ (by simp), in4 _ (by simp), in4 _ (by simp), (by unfold Wd; simp), fun z h => by simp at h⟩, hnil2, hnil, Q + 1, 0, rfl, hlQ, fun j hj => ?_⟩
   rw [cell_of_row _ _ (0 + 1 * 11 + j) _ _ _ hq2]
   match j, hj with
   | 0, _ | 1, _ | 2, _ | 3, _ | 4, _ | 5, _ | 6, _ | 7, _ | 8, _ | 9, _ | 10, _ => rfl
  | i + 2 => simp at ho⟩
 have hf := fix_core kcfg (some ⟨Q + 1, 0, none⟩) 2 [kT1 Q, kT2] v3.heap.size 2 rfl v3 (Nat.le_refl _) hprd (fun o ho z hz => by
  simp only [List.mem_cons, List.not_mem_nil, or_false] at ho
  rcases ho with rfl | rfl
  ·simp only [List.mem_cons, List.not_mem_nil, or_false] at hz
   rcases hz with rfl | rfl <;> exact in4 _ (by simp)
  ·simp at hz)
 have k0 : v3.cell? ⟨B, 0, none⟩ = some (.int .i64 64) := HP3.out.cell 0
 have k1 : v3.cell? ⟨B, 1, none⟩ = some (.int .i64 64) := HP3.out.cell 1
 have k2 : v3.cell? ⟨B, 2, none⟩ = some (.int .i64 64) := HP3.out.cell 2
 have k3 : v3.cell? ⟨B, 3, none⟩ = some (.int .i64 40) := HP3.out.cell 3
 have k4 : v3.cell? ⟨B, 4, none⟩ = some (.int .i64 0) := HP3.out.cell 4
 have k5 : v3.cell? ⟨B, 5, none⟩ = some (.int .i64 1) := HP3.out.cell 5
 have k6 : v3.cell? ⟨B, 6, none⟩ = some (.int .i64 1) := HP3.out.cell 6
 have k7 : v3.cell? ⟨B, 7, none⟩ = some (.int .i64 50) := HP3.out.cell 7
 have k8 : v3.cell? ⟨B, 8, none⟩ = some (.int .i64 3) := HP3.out.cell 8
 have k9 : v3.cell? ⟨B, 9, none⟩ = some (.int .i64 1) := HP3.out.cell 9
 have k10 : v3.cell? ⟨B, 10, none⟩ = some (.int .i64 4) := HP3.out.cell 10
 have k11 : v3.cell? ⟨B, 11, none⟩ = some (.int .i64 0) := HP3.out.cell 11
 have k12 : v3.cell? ⟨B, 12, none⟩ = some (.int .i64 0) := HP3.out.cell 12
 have k13 : v3.cell? ⟨B, 13, none⟩ = some (.int .i64 1) := HP3.out.cell 13
 have k14' : v3.cell? ⟨B, 14, none⟩ = some (.slice (some ⟨Q + 1, 0, none⟩) 2 2) := HP3.out.cell 14
 clear k14 f14 hBl hq1 hq2 hprd hset bs0 hsz bA HP HB0 hQ hlQ HP3
 go_wp2_with fail
 refine hf.mono ?_
 rintro e w4 ⟨lb, c, L, rfl, hly, ok, hlen, hlk, hc, b4⟩
 obtain rfl : c = kcfg := by
  rcases hc with ⟨-, h⟩ | ⟨h, -⟩
  ·exact h
  ·exact absurd kcfg_ok h
 obtain ⟨U, V, rfl, ua, us, uf, up, va, vs, vf⟩ := known_lay hlen hlk
 have HB4 : Hid (Below w.heap.size w w4) := HB3.out.trans (b4.mono HB3.out.size)
 have HLy : Hid (Ly w4.heap.size w4 lb kcfg [U, V] ∧ LOk kcfg [U, V]) := ⟨hly, ok⟩
 have ho1 : ob [U, V] 1 = some U := by rw [ob_some]; exact ⟨by omega, rfl, by omega, uf⟩
 have ho2 : ob [U, V] 2 = some V := by rw [ob_some]; exact ⟨by omega, rfl, by omega, vf⟩
 have Hp : Hid (plc [U, V] 1 = 193 ∧ plc [U, V] 2 = 1 ∧ ob [U, V] 1 = some U ∧ ob [U, V] 2 = some V ∧ U.ps.length = 2) := ⟨by rw [plc_some ho1, ua], by rw [plc_some ho2, va], ho1, ho2, up⟩
 have hla : Laid w4 := HLa.out.keep HB4.out
 have hbu := build_any hly (Nat.le_refl _) ok hla hla.lt0 hla.lt1
 clear hf k0 k1 k2 k3 k4 k5 k6 k7 k8 k9 k10 k11 k12 k13 k14' HB3 hly ok hlen hlk hc b4 ho1 ho2 ua us uf up va vs vf hla
 go_wp2_with fail
 refine hbu.mono ?_
 rintro e w5 ⟨b, rfl, g, ws, th, hbq, sk, hfull⟩
 have HBq : Hid (Bq w4 w4.heap.size w5 b g kcfg (tps kcfg [U, V]) false ws th ∧ Sk [U, V] th) := ⟨hbq, sk⟩
 have hnw := sNew_any b w5
 clear hbu hbq sk hfull
 go_wp2_with fail
 refine hnw.mono ?_
 rintro e w6 ⟨rfl, hrs, l6⟩
 have hR := Rm.start HBq.out.1 (Nat.le_refl _) hrs l6
 generalize w5.heap.size = mb at hR ⊢
 have HR : Hid (Rm w4 w4.heap.size w6 (mb + 1) b g mb (.slice none 0 0) kcfg (tps kcfg [U, V]) false ws th [] 0 (fun a => decide (a ∈ ([] : List Int)))) := hR
 clear hnw hrs l6 hR
 have HPl : Hid (∀ W, Below w4.heap.size w4 W → (Calls Tryz.prog 13 #[.pointer (some ⟨lb, 0, none⟩), .int .i64 1] W fun e w' => e = .returned (.int .i64 193) ∧ Below W.heap.size W w') ∧ (Calls Tryz.prog 13 #[.pointer (some ⟨lb, 0, none⟩), .int .i64 2] W fun e w' => e = .returned (.int .i64 1) ∧ Below W.heap.size W w')) := fun W hb => by
  have h1 := place_any (HLy.out.1.below hb) hb.size HLy.out.2.len 1 (by unfold InI; omega)
  have h2 := place_any (HLy.out.1.below hb) hb.size HLy.out.2.len 2 (by unfold InI; omega)
  rw [Hp.out.1] at h1
  rw [Hp.out.2.1] at h2
  exact ⟨h1, h2⟩
 obtain ⟨i, T, hTi, hTn, hMt⟩ := HBq.out.2.find Hp.out.2.2.1
 obtain ⟨i2, T2, hTi2, hTn2, hMt2⟩ := HBq.out.2.find Hp.out.2.2.2.1
 have hTa : T.at_ = 193 := by rw [hMt.at_, ← plc_some Hp.out.2.2.1]; exact Hp.out.1
 have hTa2 : T2.at_ = 1 := by rw [hMt2.at_, ← plc_some Hp.out.2.2.2.1]; exact Hp.out.2.1
 have hTl : T.ps.length = 2 := by rw [hMt.pl]; exact Hp.out.2.2.2.2
 have hii : i2 ≠ i := fun e => by
  subst e
  rw [hTi] at hTi2
  simp at hTi2
  subst hTi2
  omega
 have HT : Hid (th[i]? = some T ∧ th[i2]? = some T2 ∧ T.at_ = 193 ∧ T2.at_ = 1 ∧ T.ps.length = 2 ∧ i2 ≠ i ∧ i < th.length) := ⟨hTi, hTi2, hTa, hTa2, hTl, hii, (List.getElem?_eq_some_iff.1 hTi).1⟩
 have hp1 := (HPl.out w6 HR.out.bq.be).1
 clear hTi hTn hMt hTi2 hTn2 hMt2 hTa hTa2 hTl hii
 go_wp2_with fail
 refine hp1.mono ?_
 rintro e w7 ⟨rfl, l7⟩
 have HR7 : Hid (Rm w4 w4.heap.size w7 (mb + 1) b g mb (.slice none 0 0) kcfg (tps kcfg [U, V]) false ws th [] 0 (fun a => decide (a ∈ ([] : List Int)))) := HR.out.below l7
 have hp2 := (HPl.out w7 HR7.out.bq.be).2
 clear hp1 l7 HR
 go_wp2_with fail
 refine hp2.mono ?_
 rintro e w8 ⟨rfl, l8⟩
 have hR8 := HR7.out.below l8
 have hst := store_any hR8 i T HT.out.1 0 (by have := HT.out; omega) 1 (.inr ⟨T2, List.mem_of_getElem? HT.out.2.1, HT.out.2.2.2.1⟩) (by simp) (by omega)
 rw [HT.out.2.2.1] at hst
 clear hp2 l8 HR7 hR8
 go_wp2_with fail
 refine hst.mono ?_
 rintro e w9 ⟨rfl, lv9, ws9, -, h9⟩
 have h9 := h9 (by decide +kernel)
 have HR9 : Hid (Rm w4 w4.heap.size w9 (mb + 1) b g mb lv9 kcfg (tps kcfg [U, V]) false ws9 (th.set i { T with ps := T.ps.set 0 1, h := true }) [193] 1 (fun a => decide (a ∈ ([193] : List Int)))) := (by rw [HT.out.2.2.1]; exact h9)
 clear hst h9
 have hp1 := (HPl.out w9 HR9.out.bq.be).1
 go_wp2_with fail
 refine hp1.mono ?_
 rintro e w10 ⟨rfl, l10⟩
 have HR10 : Hid (Rm w4 w4.heap.size w10 (mb + 1) b g mb lv9 kcfg (tps kcfg [U, V]) false ws9 (th.set i { T with ps := T.ps.set 0 1, h := true }) [193] 1 (fun a => decide (a ∈ ([193] : List Int)))) := HR9.out.below l10
 have hp2 := (HPl.out w10 HR10.out.bq.be).2
 clear hp1 l10 HR9
 go_wp2_with fail
 refine hp2.mono ?_
 rintro e w11 ⟨rfl, l11⟩
 have hR11 := HR10.out.below l11
 have hst := store_any hR11 i { T with ps := T.ps.set 0 1, h := true } (by rw [List.getElem?_set, if_pos rfl, if_pos HT.out.2.2.2.2.2.2]) 1 (by show 1 < (T.ps.set 0 1).length; rw [List.length_set]; have := HT.out; omega) 1 (.inr ⟨T2, List.mem_of_getElem? (i := i2) (by rw [List.getElem?_set, if_neg (fun e => HT.out.2.2.2.2.2.1 e.symm)]; exact HT.out.2.1), HT.out.2.2.2.1⟩) (by simp) (by omega)
 rw [show ({ T with ps := T.ps.set 0 1, h := true } : Tng).at_ = 193 from HT.out.2.2.1] at hst
 clear hp2 l11 HR10 hR11
 go_wp2_with fail
 refine hst.mono ?_
 rintro e w12 ⟨rfl, lv12, ws12, h12, -⟩
 have h12 := h12 (by decide +kernel)
 obtain ⟨thz, hthz⟩ : ∃ t, t = (th.set i { T with ps := T.ps.set 0 1, h := true }).set i { T with ps := (T.ps.set 0 1).set 1 1, h := true } := ⟨_, rfl⟩
 have HR12 : Hid (Rm w4 w4.heap.size w12 (mb + 1) b g mb lv12 kcfg (tps kcfg [U, V]) false ws12 thz [193] 1 (fun a => decide (a ∈ ([193] : List Int)))) := (by rw [hthz, HT.out.2.2.1]; exact h12)
 have HTz : Hid (∃ Z, Z ∈ thz ∧ Z.at_ = 193 ∧ Z.h = true) := ⟨{ T with ps := (T.ps.set 0 1).set 1 1, h := true }, by rw [hthz]; exact List.mem_of_getElem? (i := i) (by rw [List.getElem?_set, if_pos rfl, if_pos (by rw [List.length_set]; exact HT.out.2.2.2.2.2.2)]), HT.out.2.2.1, rfl⟩
 clear hst h12 hthz
 have hls := sList_any HR12.out.rs (by simp)
 go_wp2_with fail
 refine hls.mono ?_
 rintro e w13 ⟨lz, rfl, hrow, l13⟩
 have hR13 := HR12.out.below l13
 have hp1 := (HPl.out w13 hR13.bq.be).1
 have HR13 : Hid (Rm w4 w4.heap.size w13 (mb + 1) b g mb lv12 kcfg (tps kcfg [U, V]) false ws12 thz [193] 1 (fun a => decide (a ∈ ([193] : List Int)))) := hR13
 obtain ⟨za, zcap, hze, -, hzc⟩ := row_at (row_zero hrow) (by decide)
 obtain ⟨zq, rfl, hzq, xz⟩ := hzc 0 (.int .i64 193) rfl
 have hze' : lz = .slice (some ⟨zq, 0, none⟩) 1 zcap := hze
 subst hze'
 clear hls hrow l13 hR13 HR12 hzc hze
 go_wp2_with fail
 refine hp1.mono ?_
 rintro e w14 ⟨rfl, l14⟩
 have hR14 := HR13.out.below l14
 obtain ⟨Z, hZ, hZa, hZh⟩ := HTz.out
 have hhd := hR14.bq.ax.head hZ
 rw [hZa, hZh] at hhd
 have xz14 : w14.cell? ⟨zq, 0, none⟩ = some (.int .i64 193) := (l14.cell (p := ⟨zq, 0, none⟩) hzq).trans xz
 have hzq14 : zq < w14.heap.size := Nat.lt_of_lt_of_le hzq l14.size
 have HR14 : Hid (Below w4.heap.size w4 w14) := hR14.bq.be
 generalize Z.s = zs at hhd
 generalize Z.k = zk at hhd
 generalize Z.p = zp at hhd
 generalize Z.r = zr at hhd
 generalize Z.a = zg at hhd
 generalize Z.t = zt at hhd
 clear hp1 l14 hR14 HR13 xz hzq HTz hZ hZa hZh
 go_wp2_with fail
 refine hhd.mono ?_
 rintro e w15 ⟨rfl, l15⟩
 have xz15 : w15.cell? ⟨zq, 0, none⟩ = some (.int .i64 193) := (l15.cell (p := ⟨zq, 0, none⟩) hzq14).trans xz14
 have hzq15 : zq < w15.heap.size := Nat.lt_of_lt_of_le hzq14 l15.size
 have HB15 : Hid (Below w4.heap.size w4 w15) := HR14.out.trans (l15.mono HR14.out.size)
 clear hhd l15 xz14 hzq14 HR14
 go_upto_region 14 with fail
 have hx : (w15.alloc (.cells (hcells zs zk zp zr zg zt true) 38)).heap[w15.heap.size]? = some (.cells (hcells zs zk zp zr zg zt true) 38 (0, 0)) := heap_alloc_new w15 _
 have b16 : Below w15.heap.size w15 (w15.alloc (.cells (hcells zs zk zp zr zg zt true) 38)) := Below.alloc (Below.refl _ _) (Nat.le_refl _) _
 have HB16 : Hid (Below w4.heap.size w4 (w15.alloc (.cells (hcells zs zk zp zr zg zt true) 38))) := HB15.out.trans (b16.mono HB15.out.size)
 have xz16 : (w15.alloc (.cells (hcells zs zk zp zr zg zt true) 38)).cell? ⟨zq, 0, none⟩ = some (.int .i64 193) := (b16.cell (p := ⟨zq, 0, none⟩) hzq15).trans xz15
 have hzq16 : zq < (w15.alloc (.cells (hcells zs zk zp zr zg zt true) 38)).heap.size := Nat.lt_of_lt_of_le hzq15 b16.size
 generalize w15.alloc (.cells (hcells zs zk zp zr zg zt true) 38) = w16 at hx HB16 xz16 hzq16 ⊢
 generalize w15.heap.size = X at hx ⊢
 have hXl : X < w16.heap.size := (Array.getElem?_eq_some_iff.1 hx).1
 haveI hinh : Inhabited (Bel w16) := ⟨⟨w16, Below.refl _ _⟩⟩
 have x6 : ∀ p : Bel w16, p.v.cell? ⟨X, 6, none⟩ = some (.bool true) := fun p => (p.h.cell (p := ⟨X, 6, none⟩) hXl).trans (cell_of_row _ _ 6 _ _ _ hx)
 have xq : ∀ p : Bel w16, p.v.cell? ⟨zq, 0, none⟩ = some (.int .i64 193) := fun p => (p.h.cell (p := ⟨zq, 0, none⟩) hzq16).trans xz16
 have HP1 : Hid (∀ p : Bel w16, Calls Tryz.prog 13 #[.pointer (some ⟨lb, 0, none⟩), .int .i64 1] p.v fun e w' => e = .returned (.int .i64 193) ∧ Below p.v.heap.size p.v w') := fun p => (HPl.out p.v (HB16.out.trans (p.h.mono HB16.out.size))).1
 clear hx b16 HB15 xz15 hzq15 xz16 hzq16 hXl
 go_wp2_with fail
 refine region_below mixed (by kernel_rfl) ?_
 repeat (go_big_quiet_step (first | (go_at_call 13; exact calls_bel (HP1.out _))))
 refine wpQuiet_nil ?_
 rintro w17 ⟨⟨w17, b17⟩, rfl⟩
 have HBz : Hid (Below w.heap.size w w17) := HB4.out.trans ((HB16.out.trans (b17.mono HB16.out.size)).mono HB4.out.size)
 clear x6 xq hinh HP1
 go_wp2_with fail
 go_ret
 exact ⟨rfl, HBz.out⟩
end Go.Proofs.YtlkengnefhhppaaGreatDoor
