import Derived.Test.YtckgcpoheodbcaaGreatDoorQ40
import Derived.Test.YtckgcpoheodbcaaGreatDoorQ34
import Derived.Test.YtckgcpoheodbcaaGreatDoorQ41
import Derived.Test.YtckgcpoheodbcaaGreatDoorQ46
import Derived.Test.YtckgcpoheodbcaaGreatDoorQ45
import Derived.ProofKit
import Derived.OpenShut
import Derived.ChangeOld
import Derived.ChangeSlices
import Derived.Lib.SmallJoins
set_option linter.unusedVariables false
set_option maxHeartbeats 8000000
set_option maxRecDepth 20000
namespace Go.Proofs.YtckgcpoheodbcaaGreatDoor
open Go.RowKit Go.Shelf
section
variable {os : List OL} {ts : List (Value × List (Value × List Int))} {g : Im.Gr}
theorem wsum_le : ∀ (obs : List Im.Ob) n, Im.wsum obs (fun _ => false) n ≤ ((obs.take n).map (·.ps.length)).sum
 | obs, 0 => Nat.zero_le _
 | obs, n + 1 => by
  have ih := wsum_le obs n
  unfold Im.wsum
  cases ho : obs[n]? with
  | none =>
   have hl : obs.length ≤ n := by
    rcases Nat.lt_or_ge n obs.length with h1 | h1
    ·rw [List.getElem?_eq_getElem h1] at ho; cases ho
    ·exact h1
   rw [List.take_of_length_le (by omega)]
   rw [List.take_of_length_le (by omega)] at ih
   simp only [Bool.false_eq_true, if_false, Option.map_none, Option.getD_none, Nat.add_zero]
   exact ih
  | some o =>
   rw [take_snocL ho, List.map_append, List.sum_append]
   simp only [Bool.false_eq_true, if_false, Option.map_some, Option.getD_some, List.map_cons, List.map_nil, List.sum_cons, List.sum_nil, Nat.add_zero]
   omega
theorem big19_of (h : gsz os ts g ≤ 1048576) (eo : g.obs = os.map (·.o)) (es : g.slots = ts.map (fun t => t.2.map (·.2))) : Big19 os ts g := by
 have h1 : Im.wsum g.obs (fun _ => false) g.obs.length ≤ osum os := by
  refine Nat.le_trans (wsum_le _ _) ?_
  rw [List.take_length, eo, List.map_map]
  clear h eo
  induction os with
  | nil => exact Nat.le_refl _
  | cons x r ih =>
   simp only [osum, List.map_cons, List.sum_cons, Function.comp] at ih ⊢
   omega
 have h2 : (slotsF g.slots).length ≤ tsum ts := by
  rw [es]
  clear h es h1 eo
  induction ts with
  | nil => exact Nat.le_refl _
  | cons x r ih =>
   simp only [slotsF, tsum, List.map_cons, List.flatten_cons, List.sum_cons, List.length_append] at ih ⊢
   have h3 : (x.2.map (·.2)).flatten.length = fsum (x.2.map (·.2)) := by simp [fsum, List.length_flatten]
   omega
 have h3 : (ents g).length = g.hs.length + (g.rg.length + g.qu.length) + (slotsF g.slots).length := by
  simp only [ents, List.length_append]
 have hs := sln_of h
 have h4 : (os.map (·.o.ps.length)).sum ≤ osum os := by
  clear h eo es h1 h2 h3 hs
  induction os with
  | nil => exact Nat.le_refl _
  | cons x r ih =>
   simp only [osum, List.map_cons, List.sum_cons] at ih ⊢
   omega
 have h5 : ∀ x, x ∈ os → x.o.ps.length + x.o.rs.length ≤ osum os := by
  clear h eo es h1 h2 h3 hs h4
  induction os with
  | nil => intro x hx; cases hx
  | cons y r ih =>
   intro x hx
   simp only [osum, List.map_cons, List.sum_cons] at ih ⊢
   rcases List.mem_cons.1 hx with rfl | h6
   ·omega
   ·have := ih x h6
    omega
 unfold gsz szs at h
 exact ⟨⟨hs, by omega, by omega, by omega, by omega, by omega⟩, hs, by omega, by omega, by omega, fun x hx => by have := h5 x hx; omega⟩
end
theorem retained17_any (w : World) (hL : Laid w) (vo vs vh vr vq : Value) (os : List OL) (ts : List (Value × List (Value × List Int))) (g : Im.Gr) (hg : Grd w.heap.size w vo vs vh vr vq os ts g) (hz : gsz os ts g ≤ 1048576) (hr : ∀ x, x ∈ os → obR x.o) :
  Calls Tryz.prog 4 #[.agg (gcs vo vs vh vr vq g.next)] w fun e w' => e = .returned (.bool true) ∧ Below w.heap.size w w' := by
 obtain ⟨aa, ac, ea, -⟩ := id hg.ob
 obtain ⟨ba, bc, eb, -⟩ := id hg.sl
 obtain ⟨ca, cc, ec, -, -⟩ := id hg.hs
 obtain ⟨da, dc, ed, -, -⟩ := id hg.rg
 obtain ⟨qa, qc, eq, -, -⟩ := id hg.qu
 subst ea eb ec ed eq
 have l1 : Below w.heap.size w (w.alloc (.cells (gcs (.slice aa os.length ac) (.slice ba ts.length bc) (.slice ca g.hs.length cc) (.slice da g.rg.length dc) (.slice qa g.qu.length qc) g.next) 27)) := Below.alloc (Below.refl _ _) (Nat.le_refl _) _
 have hx := heap_alloc_new w (.cells (gcs (.slice aa os.length ac) (.slice ba ts.length bc) (.slice ca g.hs.length cc) (.slice da g.rg.length dc) (.slice qa g.qu.length qc) g.next) 27 (0, 0))
 have hws : (w.alloc (.cells (gcs (.slice aa os.length ac) (.slice ba ts.length bc) (.slice ca g.hs.length cc) (.slice da g.rg.length dc) (.slice qa g.qu.length qc) g.next) 27)).heap.size = w.heap.size + 1 := by simp
 obtain ⟨W, hW⟩ : ∃ W, W = w.alloc (.cells (gcs (.slice aa os.length ac) (.slice ba ts.length bc) (.slice ca g.hs.length cc) (.slice da g.rg.length dc) (.slice qa g.qu.length qc) g.next) 27) := ⟨_, rfl⟩
 rw [← hW] at l1 hx hws
 have HL : Hid (∀ w', Below w.heap.size w w' → Laid w') := fun w' b' => hL.keep b'
 have HG : Hid (∀ w', Below w.heap.size w w' → Grd w.heap.size w' (.slice aa os.length ac) (.slice ba ts.length bc) (.slice ca g.hs.length cc) (.slice da g.rg.length dc) (.slice qa g.qu.length qc) os ts g) := fun w' b' => hg.below b'
 have HK : Hid (∀ w', Below W.heap.size W w' → Below w.heap.size w w' ∧ ∀ j v, (gcs (.slice aa os.length ac) (.slice ba ts.length bc) (.slice ca g.hs.length cc) (.slice da g.rg.length dc) (.slice qa g.qu.length qc) g.next)[j]? = some v → w'.cell? ⟨w.heap.size, j, none⟩ = some v) := fun w' b' => ⟨l1.trans (b'.mono l1.size), fun j v h => (Kg.heap_cell ((b'.block _ (Kg.heap_lt hx)).trans hx) j).trans h⟩
 have HZ : Hid (gsz os ts g ≤ 1048576) := hz
 have HR : Hid (∀ x, x ∈ os → obR x.o) := hr
 have hnx := hg.nx
 have HWs : Hid (W.heap.size = w.heap.size + 1) := hws
 have HBG : Hid (Big19 os ts g) := big19_of hz hg.eo hg.es
 clear hg hr hz hL hx l1 hws
 have hbd := Bd.new W W.heap.size (Nat.le_refl _)
 have bR : Below W.heap.size W (W.alloc (.cells (rmc (.slice none 0 0) (.slice none 0 0) (.slice none 0 0) (.slice none 0 0) (.slice none 0 0)) 37)) := Below.alloc (Below.refl _ _) (Nat.le_refl _) _
 have Hs1 : Hid ((W.alloc (.cells (rmc (.slice none 0 0) (.slice none 0 0) (.slice none 0 0) (.slice none 0 0) (.slice none 0 0)) 37)).heap.size = W.heap.size + 1) := by show _ = _; simp
 go_enter Tryz.func4, Tryz.ntmps4
 go_upto_region 2 with fail
 change Code.wp _ _ _ _ ((w.alloc (.cells (gcs (.slice aa os.length ac) (.slice ba ts.length bc) (.slice ca g.hs.length cc) (.slice da g.rg.length dc) (.slice qa g.qu.length qc) g.next) 27)).alloc (.cells (rmc (.slice none 0 0) (.slice none 0 0) (.slice none 0 0) (.slice none 0 0) (.slice none 0 0)) 37))
 have eR : w.heap.size + 1 = W.heap.size := HWs.out.symm
 rw [← hW, eR]
 clear eR hW
 have HBd : Hid (Bd (W.alloc (.cells (rmc (.slice none 0 0) (.slice none 0 0) (.slice none 0 0) (.slice none 0 0) (.slice none 0 0)) 37)) W.heap.size W.heap.size (fun _ => 0) rs0 []) := hbd
 have HBR : Hid (Below W.heap.size W (W.alloc (.cells (rmc (.slice none 0 0) (.slice none 0 0) (.slice none 0 0) (.slice none 0 0) (.slice none 0 0)) 37))) := bR
 clear hbd bR
 generalize W.alloc (.cells (rmc (.slice none 0 0) (.slice none 0 0) (.slice none 0 0) (.slice none 0 0) (.slice none 0 0)) 37) = WR at *
 have k0 : WR.cell? ⟨w.heap.size, 0, none⟩ = some (.slice aa os.length ac) := (HK.out WR HBR.out).2 0 _ rfl
 have k1 : WR.cell? ⟨w.heap.size, 1, none⟩ = some (.slice ba ts.length bc) := (HK.out WR HBR.out).2 1 _ rfl
 have k2 : WR.cell? ⟨w.heap.size, 2, none⟩ = some (.slice ca g.hs.length cc) := (HK.out WR HBR.out).2 2 _ rfl
 have k3 : WR.cell? ⟨w.heap.size, 3, none⟩ = some (.slice da g.rg.length dc) := (HK.out WR HBR.out).2 3 _ rfl
 have k4 : WR.cell? ⟨w.heap.size, 4, none⟩ = some (.slice qa g.qu.length qc) := (HK.out WR HBR.out).2 4 _ rfl
 have k5 : WR.cell? ⟨w.heap.size, 5, none⟩ = some (.int .u64 (g.next : Int)) := (HK.out WR HBR.out).2 5 _ rfl
 have hw01 : w.heap.size ≤ W.heap.size := by have := HWs.out; omega
 have q := roomGraph_any HBd.out w.heap.size hw01 (by have := Hs1.out; omega) _ _ _ _ _ os ts g (HG.out WR (HK.out WR HBR.out).1) (sml_of HZ.out) (by simp [RS.tot, rs0])
 go_wp2_with fail
 refine q.mono ?_
 rintro e w2 ⟨vo', vs', vh', vr', vq', rfl, N2, S2, ⟨os2, ts2, hl2⟩, bd2, st2, tc2, tt2⟩
 clear q k0 k1 k2 k3 k4 k5
 obtain ⟨⟨b1, hG1⟩, ⟨b2, hG2⟩, ⟨b3, hG3⟩, ⟨b4, hG4⟩, ⟨b5, hG5⟩, -, -⟩ := id hl2
 have hu1 := hG1.is
 have hu2 := hG2.is
 have hu3 := hG3.is
 have hu4 := hG4.is
 have hu5 := hG5.is
 subst hu1 hu2 hu3 hu4 hu5
 clear hG1 hG2 hG3 hG4 hG5
 have Hl2 : Hid (Lent w2 N2 ([] ++ S2.F W.heap.size) W.heap.size (.slice (some ⟨b1, 0, none⟩) os2.length (os2.length + 8)) (.slice (some ⟨b2, 0, none⟩) ts2.length (ts2.length + 8)) (.slice (some ⟨b3, 0, none⟩) g.hs.length (g.hs.length + 40)) (.slice (some ⟨b4, 0, none⟩) g.rg.length (g.rg.length + 40)) (.slice (some ⟨b5, 0, none⟩) g.qu.length (g.qu.length + 40)) os2 ts2 g) := hl2
 have Hbd2 : Hid (Bd w2 W.heap.size W.heap.size N2 S2 []) := bd2
 have Htc2 : Hid (Kg.Touch (rs0.F W.heap.size) WR w2) := tc2
 have Htt2 : Hid (S2.tot ≤ 150000000) := by
  have h1 := sml_of HZ.out
  have h2 := h1.o
  have h3 := h1.tc
  have h4 : rs0.tot = 0 := by simp [RS.tot, rs0]
  show _ ≤ _
  omega
 clear hl2 bd2 st2 tc2 tt2
 go_upto_region 3 with fail
 have hB3 : Below w2.heap.size w2 (w2.alloc (.cells (gcs (.slice (some ⟨b1, 0, none⟩) os2.length (os2.length + 8)) (.slice (some ⟨b2, 0, none⟩) ts2.length (ts2.length + 8)) (.slice (some ⟨b3, 0, none⟩) g.hs.length (g.hs.length + 40)) (.slice (some ⟨b4, 0, none⟩) g.rg.length (g.rg.length + 40)) (.slice (some ⟨b5, 0, none⟩) g.qu.length (g.qu.length + 40)) g.next) 27)) := Below.alloc (Below.refl _ _) (Nat.le_refl _) _
 have hx3 := heap_alloc_new w2 (.cells (gcs (.slice (some ⟨b1, 0, none⟩) os2.length (os2.length + 8)) (.slice (some ⟨b2, 0, none⟩) ts2.length (ts2.length + 8)) (.slice (some ⟨b3, 0, none⟩) g.hs.length (g.hs.length + 40)) (.slice (some ⟨b4, 0, none⟩) g.rg.length (g.rg.length + 40)) (.slice (some ⟨b5, 0, none⟩) g.qu.length (g.qu.length + 40)) g.next) 27 (0, 0))
 have hs3 : (w2.alloc (.cells (gcs (.slice (some ⟨b1, 0, none⟩) os2.length (os2.length + 8)) (.slice (some ⟨b2, 0, none⟩) ts2.length (ts2.length + 8)) (.slice (some ⟨b3, 0, none⟩) g.hs.length (g.hs.length + 40)) (.slice (some ⟨b4, 0, none⟩) g.rg.length (g.rg.length + 40)) (.slice (some ⟨b5, 0, none⟩) g.qu.length (g.qu.length + 40)) g.next) 27)).heap.size = w2.heap.size + 1 := by simp
 obtain ⟨O6, hO6⟩ : ∃ O, O = w2.heap.size := ⟨_, rfl⟩
 rw [← hO6]
 rw [← hO6] at hx3 hs3
 change Code.wp _ _ _ _ (w2.alloc (.cells (gcs (.slice (some ⟨b1, 0, none⟩) os2.length (os2.length + 8)) (.slice (some ⟨b2, 0, none⟩) ts2.length (ts2.length + 8)) (.slice (some ⟨b3, 0, none⟩) g.hs.length (g.hs.length + 40)) (.slice (some ⟨b4, 0, none⟩) g.rg.length (g.rg.length + 40)) (.slice (some ⟨b5, 0, none⟩) g.qu.length (g.qu.length + 40)) g.next) 27))
 generalize w2.alloc (.cells (gcs (.slice (some ⟨b1, 0, none⟩) os2.length (os2.length + 8)) (.slice (some ⟨b2, 0, none⟩) ts2.length (ts2.length + 8)) (.slice (some ⟨b3, 0, none⟩) g.hs.length (g.hs.length + 40)) (.slice (some ⟨b4, 0, none⟩) g.rg.length (g.rg.length + 40)) (.slice (some ⟨b5, 0, none⟩) g.qu.length (g.qu.length + 40)) g.next) 27) = W3 at *
 have Hl3 : Hid (Lent W3 N2 [] W.heap.size (.slice (some ⟨b1, 0, none⟩) os2.length (os2.length + 8)) (.slice (some ⟨b2, 0, none⟩) ts2.length (ts2.length + 8)) (.slice (some ⟨b3, 0, none⟩) g.hs.length (g.hs.length + 40)) (.slice (some ⟨b4, 0, none⟩) g.rg.length (g.rg.length + 40)) (.slice (some ⟨b5, 0, none⟩) g.qu.length (g.qu.length + 40)) os2 ts2 g) := (Hl2.out.stp (Stp.below hB3)).stp ⟨Kg.Touch.refl _ _, fun k hk => by simp at hk, fun _ _ _ => rfl⟩
 have Hbd3 : Hid (Bd W3 W.heap.size W.heap.size N2 S2 []) := Hbd2.out.below hB3
 have HB3 : Hid (Below W.heap.size W W3) := by
  have h1 : Below W.heap.size WR w2 := Htc2.out.below HBR.out.size (fun k hk => by simp [RS.F, rs0, Value.ownBlock] at hk; omega)
  exact (HBR.out.trans h1).trans (hB3.mono (Nat.le_trans HBR.out.size h1.size))
 have HN6 : Hid (N2 O6 = 0 ∧ O6 < W3.heap.size ∧ W.heap.size ≤ W3.heap.size) := ⟨Hbd2.out.d O6 (by rw [hO6]; exact Nat.le_refl _), by omega, HB3.out.size⟩
 have Heo : Hid (os.map (·.o) = os2.map (·.o)) := (HG.out w (Below.refl _ _)).eo.symm.trans Hl2.out.eo
 have Hes : Hid (ts.map (fun t => t.2.map (·.2)) = ts2.map (fun t => t.2.map (·.2))) := (HG.out w (Below.refl _ _)).es.symm.trans Hl2.out.es
 have Hz2 : Hid (gsz os2 ts2 g ≤ 1048576) := by
  show _ ≤ _
  rw [← gsz_eq (g := g) Heo.out Hes.out]
  exact HZ.out
 have Hr2 : Hid (∀ x, x ∈ os2 → obR x.o) := obR_of Heo.out HR.out
 have HBG2 : Hid (Big19 os2 ts2 g) := big19_of Hz2.out Hl2.out.eo Hl2.out.es
 have hg3 := Hl3.out.grd Hr2.out Hz2.out hnx
 have Hg3 : Hid (∀ w', Below W3.heap.size W3 w' → Grd W3.heap.size w' (.slice (some ⟨b1, 0, none⟩) os2.length (os2.length + 8)) (.slice (some ⟨b2, 0, none⟩) ts2.length (ts2.length + 8)) (.slice (some ⟨b3, 0, none⟩) g.hs.length (g.hs.length + 40)) (.slice (some ⟨b4, 0, none⟩) g.rg.length (g.rg.length + 40)) (.slice (some ⟨b5, 0, none⟩) g.qu.length (g.qu.length + 40)) os2 ts2 g) := fun w' b' => hg3.below b'
 have HK3 : Hid (∀ w', Below W3.heap.size W3 w' → (Below w.heap.size w w' ∧ ∀ j v, (gcs (.slice aa os.length ac) (.slice ba ts.length bc) (.slice ca g.hs.length cc) (.slice da g.rg.length dc) (.slice qa g.qu.length qc) g.next)[j]? = some v → w'.cell? ⟨w.heap.size, j, none⟩ = some v) ∧ ∀ j v, (gcs (.slice (some ⟨b1, 0, none⟩) os2.length (os2.length + 8)) (.slice (some ⟨b2, 0, none⟩) ts2.length (ts2.length + 8)) (.slice (some ⟨b3, 0, none⟩) g.hs.length (g.hs.length + 40)) (.slice (some ⟨b4, 0, none⟩) g.rg.length (g.rg.length + 40)) (.slice (some ⟨b5, 0, none⟩) g.qu.length (g.qu.length + 40)) g.next)[j]? = some v → w'.cell? ⟨O6, j, none⟩ = some v) := fun w' b' => ⟨HK.out w' (HB3.out.trans (b'.mono HB3.out.size)), fun j v h => (Kg.heap_cell ((b'.block _ (Kg.heap_lt hx3)).trans hx3) j).trans h⟩
 have HW3 : Hid (w.heap.size ≤ W3.heap.size) := by have := HWs.out; have := HB3.out.size; show _ ≤ _; omega
 clear hg3 hx3 hs3 hB3 hO6 Hl2 Hbd2 Htc2 HBd HBR Hs1 hw01
 have m0 : W3.cell? ⟨O6, 0, none⟩ = some (.slice (some ⟨b1, 0, none⟩) os2.length (os2.length + 8)) := (HK3.out W3 (Below.refl _ _)).2 0 _ rfl
 have m1 : W3.cell? ⟨O6, 1, none⟩ = some (.slice (some ⟨b2, 0, none⟩) ts2.length (ts2.length + 8)) := (HK3.out W3 (Below.refl _ _)).2 1 _ rfl
 have m2 : W3.cell? ⟨O6, 2, none⟩ = some (.slice (some ⟨b3, 0, none⟩) g.hs.length (g.hs.length + 40)) := (HK3.out W3 (Below.refl _ _)).2 2 _ rfl
 have m3 : W3.cell? ⟨O6, 3, none⟩ = some (.slice (some ⟨b4, 0, none⟩) g.rg.length (g.rg.length + 40)) := (HK3.out W3 (Below.refl _ _)).2 3 _ rfl
 have m4 : W3.cell? ⟨O6, 4, none⟩ = some (.slice (some ⟨b5, 0, none⟩) g.qu.length (g.qu.length + 40)) := (HK3.out W3 (Below.refl _ _)).2 4 _ rfl
 have m5 : W3.cell? ⟨O6, 5, none⟩ = some (.int .u64 (g.next : Int)) := (HK3.out W3 (Below.refl _ _)).2 5 _ rfl
 have q := lRetained_any W3.heap.size W3 _ _ _ _ _ os2 ts2 g (Hg3.out W3 (Below.refl _ _)) (Nat.le_refl _) (HL.out _ (HK3.out W3 (Below.refl _ _)).1.1) HBG2.out
 go_wp2_with fail
 refine q.mono ?_
 rintro e w4 ⟨v4, l4, e4, rfl, o4, b4, p4⟩
 have HB4 : Hid (Below W3.heap.size W3 w4) := b4
 have HP4 : Hid (Pr18 g l4 e4) := p4
 have HO4 : Hid (Lrd w4.heap.size w4 v4 .i64 l4) := o4
 obtain ⟨a4, c4, ev4, -⟩ := id o4
 subst ev4
 clear q o4 b4 p4 m0 m1 m2 m3 m4 m5
 have k0 : w4.cell? ⟨w.heap.size, 0, none⟩ = some (.slice aa os.length ac) := (HK3.out w4 HB4.out).1.2 0 _ rfl
 have k1 : w4.cell? ⟨w.heap.size, 1, none⟩ = some (.slice ba ts.length bc) := (HK3.out w4 HB4.out).1.2 1 _ rfl
 have k2 : w4.cell? ⟨w.heap.size, 2, none⟩ = some (.slice ca g.hs.length cc) := (HK3.out w4 HB4.out).1.2 2 _ rfl
 have k3 : w4.cell? ⟨w.heap.size, 3, none⟩ = some (.slice da g.rg.length dc) := (HK3.out w4 HB4.out).1.2 3 _ rfl
 have k4 : w4.cell? ⟨w.heap.size, 4, none⟩ = some (.slice qa g.qu.length qc) := (HK3.out w4 HB4.out).1.2 4 _ rfl
 have k5 : w4.cell? ⟨w.heap.size, 5, none⟩ = some (.int .u64 (g.next : Int)) := (HK3.out w4 HB4.out).1.2 5 _ rfl
 have q := r17Retained_any w.heap.size w4 _ _ _ _ _ os ts g (HG.out w4 (HK3.out w4 HB4.out).1.1) (Nat.le_trans HW3.out HB4.out.size) HBG.out
 go_wp2_with fail
 refine q.mono ?_
 rintro e w5 ⟨v5, l5, e5, rfl, o5, b5', p5⟩
 have hl4 : l4.length ≤ 4611686018427387904 := by
  have h1 := HP4.out.len
  have h2 : g.obs.length = os2.length := by rw [(Hg3.out W3 (Below.refl _ _)).eo, List.length_map]
  have h3 := HBG2.out.o
  omega
 obtain ⟨el, ee⟩ := HP4.out.uniq p5
 subst el ee
 have HB5 : Hid (Below W3.heap.size W3 w5) := HB4.out.trans (b5'.mono HB4.out.size)
 have HO5 : Hid (Il w5 w4.heap.size v5 l4) := o5
 have HO4' : Hid (Lrd w5.heap.size w5 (.slice a4 l4.length c4) .i64 l4) := (HO4.out.below b5').mono b5'.size
 obtain ⟨a5, c5, rfl⟩ := own_sl17 o5
 clear q o5 b5' p5 k0 k1 k2 k3 k4 k5 HO4 HB4
 have q := same17_eq w5.heap.size _ _ l4 w5 HO4'.out (HO5.out.lrd) hl4
 go_wp2_with fail
 refine q.mono ?_
 rintro e w6 ⟨rfl, nq, rfl⟩
 have HB6 : Hid (Below W3.heap.size W3 (w5.drewN nq)) := below_drewN HB5.out nq
 generalize w5.drewN nq = w6 at *
 clear q HO5 HO4'
 have k0 : w6.cell? ⟨w.heap.size, 0, none⟩ = some (.slice aa os.length ac) := (HK3.out w6 HB6.out).1.2 0 _ rfl
 have k1 : w6.cell? ⟨w.heap.size, 1, none⟩ = some (.slice ba ts.length bc) := (HK3.out w6 HB6.out).1.2 1 _ rfl
 have k2 : w6.cell? ⟨w.heap.size, 2, none⟩ = some (.slice ca g.hs.length cc) := (HK3.out w6 HB6.out).1.2 2 _ rfl
 have k3 : w6.cell? ⟨w.heap.size, 3, none⟩ = some (.slice da g.rg.length dc) := (HK3.out w6 HB6.out).1.2 3 _ rfl
 have k4 : w6.cell? ⟨w.heap.size, 4, none⟩ = some (.slice qa g.qu.length qc) := (HK3.out w6 HB6.out).1.2 4 _ rfl
 have k5 : w6.cell? ⟨w.heap.size, 5, none⟩ = some (.int .u64 (g.next : Int)) := (HK3.out w6 HB6.out).1.2 5 _ rfl
 have m0 : w6.cell? ⟨O6, 0, none⟩ = some (.slice (some ⟨b1, 0, none⟩) os2.length (os2.length + 8)) := (HK3.out w6 HB6.out).2 0 _ rfl
 have m1 : w6.cell? ⟨O6, 1, none⟩ = some (.slice (some ⟨b2, 0, none⟩) ts2.length (ts2.length + 8)) := (HK3.out w6 HB6.out).2 1 _ rfl
 have m2 : w6.cell? ⟨O6, 2, none⟩ = some (.slice (some ⟨b3, 0, none⟩) g.hs.length (g.hs.length + 40)) := (HK3.out w6 HB6.out).2 2 _ rfl
 have m3 : w6.cell? ⟨O6, 3, none⟩ = some (.slice (some ⟨b4, 0, none⟩) g.rg.length (g.rg.length + 40)) := (HK3.out w6 HB6.out).2 3 _ rfl
 have m4 : w6.cell? ⟨O6, 4, none⟩ = some (.slice (some ⟨b5, 0, none⟩) g.qu.length (g.qu.length + 40)) := (HK3.out w6 HB6.out).2 4 _ rfl
 have m5 : w6.cell? ⟨O6, 5, none⟩ = some (.int .u64 (g.next : Int)) := (HK3.out w6 HB6.out).2 5 _ rfl
 have q := sameGraph17_eq W3.heap.size w6 HB6.out.size (.slice (some ⟨b1, 0, none⟩) os2.length (os2.length + 8)) (.slice (some ⟨b2, 0, none⟩) ts2.length (ts2.length + 8)) (.slice (some ⟨b3, 0, none⟩) g.hs.length (g.hs.length + 40)) (.slice (some ⟨b4, 0, none⟩) g.rg.length (g.rg.length + 40)) (.slice (some ⟨b5, 0, none⟩) g.qu.length (g.qu.length + 40)) _ _ _ _ _ os2 os ts2 ts g (Hg3.out w6 HB6.out) ((HG.out w6 (HK3.out w6 HB6.out).1.1).mono HW3.out) (by have := Hz2.out; unfold gsz szs at this; omega) (sln_of Hz2.out) (by have := Hz2.out; unfold gsz szs at this; omega) (by have := Hz2.out; unfold gsz szs at this; omega) (by have := Hz2.out; unfold gsz szs at this; omega)
 go_wp2_with fail
 refine q.mono ?_
 rintro e w7 ⟨rfl, b7⟩
 have HB7 : Hid (Below W3.heap.size W3 w7) := HB6.out.trans (b7.mono HB6.out.size)
 clear q b7 HB6 k0 k1 k2 k3 k4 k5 m0 m1 m2 m3 m4 m5
 have q := roomHold_rg ((Hbd3.out.below HB7.out).rg (by have := Htt2.out; omega))
 go_wp2_with fail
 refine q.mono ?_
 rintro e w8 ⟨rfl, b8⟩
 have HB8 : Hid (Below W3.heap.size W3 w8) := HB7.out.trans (b8.mono HB7.out.size)
 clear q b8 HB7
 have m0 : w8.cell? ⟨O6, 0, none⟩ = some (.slice (some ⟨b1, 0, none⟩) os2.length (os2.length + 8)) := (HK3.out w8 HB8.out).2 0 _ rfl
 have m1 : w8.cell? ⟨O6, 1, none⟩ = some (.slice (some ⟨b2, 0, none⟩) ts2.length (ts2.length + 8)) := (HK3.out w8 HB8.out).2 1 _ rfl
 have m2 : w8.cell? ⟨O6, 2, none⟩ = some (.slice (some ⟨b3, 0, none⟩) g.hs.length (g.hs.length + 40)) := (HK3.out w8 HB8.out).2 2 _ rfl
 have m3 : w8.cell? ⟨O6, 3, none⟩ = some (.slice (some ⟨b4, 0, none⟩) g.rg.length (g.rg.length + 40)) := (HK3.out w8 HB8.out).2 3 _ rfl
 have m4 : w8.cell? ⟨O6, 4, none⟩ = some (.slice (some ⟨b5, 0, none⟩) g.qu.length (g.qu.length + 40)) := (HK3.out w8 HB8.out).2 4 _ rfl
 have m5 : w8.cell? ⟨O6, 5, none⟩ = some (.int .u64 (g.next : Int)) := (HK3.out w8 HB8.out).2 5 _ rfl
 have q := turned17_any (Hl3.out.stp (Stp.below HB8.out)) (Nat.le_trans HN6.out.2.2 HB8.out.size) (by have := Hz2.out; unfold gsz szs at this; omega) (fun x hx => by have := (sml_of Hz2.out).ol x hx; omega) (by have := Hz2.out; unfold gsz szs at this; omega) (by have := Hz2.out; unfold gsz szs at this; omega)
 go_wp2_with fail
 refine q.mono ?_
 rintro e w9 ⟨rfl, sh9, bn9, kp9⟩
 have HO9 : Hid (∀ w', Below w9.heap.size w9 w' → ∀ j v, (gcs (.slice (some ⟨b1, 0, none⟩) os2.length (os2.length + 8)) (.slice (some ⟨b2, 0, none⟩) ts2.length (ts2.length + 8)) (.slice (some ⟨b3, 0, none⟩) g.hs.length (g.hs.length + 40)) (.slice (some ⟨b4, 0, none⟩) g.rg.length (g.rg.length + 40)) (.slice (some ⟨b5, 0, none⟩) g.qu.length (g.qu.length + 40)) g.next)[j]? = some v → w'.cell? ⟨O6, j, none⟩ = some v) := fun w' b' j v h => (b'.cell (p := ⟨O6, j, none⟩) (Nat.lt_of_lt_of_le HN6.out.2.1 (Nat.le_trans HB8.out.size sh9.s))).trans ((kp9.c O6 j (Nat.lt_of_lt_of_le HN6.out.2.1 HB8.out.size) (by rw [HN6.out.1]; exact Nat.zero_le _)).trans ((HK3.out w8 HB8.out).2 j v h))
 obtain ⟨os9, ts9, g9, hl9, hr9, hz9, hx9, -⟩ := (Hl3.out.stp (Stp.below HB8.out)).shp sh9 Hr2.out
 have z9 : gsz os9 ts9 g9 ≤ 1048576 := by rw [hz9]; exact Hz2.out
 have HG9 : Hid (∀ w', Below w9.heap.size w9 w' → Grd w9.heap.size w' (.slice (some ⟨b1, 0, none⟩) os2.length (os2.length + 8)) (.slice (some ⟨b2, 0, none⟩) ts2.length (ts2.length + 8)) (.slice (some ⟨b3, 0, none⟩) g.hs.length (g.hs.length + 40)) (.slice (some ⟨b4, 0, none⟩) g.rg.length (g.rg.length + 40)) (.slice (some ⟨b5, 0, none⟩) g.qu.length (g.qu.length + 40)) os9 ts9 g9) := fun w' b' => (hl9.grd hr9 z9 (by rw [hx9]; exact hnx)).below b'
 have HBG9 : Hid (Big19 os9 ts9 g9) := big19_of z9 hl9.eo hl9.es
 have HX9 : Hid (g9.next = g.next) := hx9
 have HB9 : Hid (Below w.heap.size w w9) := by
  have h1 : Below W.heap.size W w8 := HB3.out.trans (HB8.out.mono HB3.out.size)
  have h2 : Below W.heap.size W w9 := h1.trans bn9
  exact (HK.out w9 h2).1
 clear q sh9 bn9 kp9 hl9 hr9 hz9 hx9 z9 m0 m1 m2 m3 m4 m5 HB8
 have m0 : w9.cell? ⟨O6, 0, none⟩ = some (.slice (some ⟨b1, 0, none⟩) os2.length (os2.length + 8)) := HO9.out w9 (Below.refl _ _) 0 _ rfl
 have m1 : w9.cell? ⟨O6, 1, none⟩ = some (.slice (some ⟨b2, 0, none⟩) ts2.length (ts2.length + 8)) := HO9.out w9 (Below.refl _ _) 1 _ rfl
 have m2 : w9.cell? ⟨O6, 2, none⟩ = some (.slice (some ⟨b3, 0, none⟩) g.hs.length (g.hs.length + 40)) := HO9.out w9 (Below.refl _ _) 2 _ rfl
 have m3 : w9.cell? ⟨O6, 3, none⟩ = some (.slice (some ⟨b4, 0, none⟩) g.rg.length (g.rg.length + 40)) := HO9.out w9 (Below.refl _ _) 3 _ rfl
 have m4 : w9.cell? ⟨O6, 4, none⟩ = some (.slice (some ⟨b5, 0, none⟩) g.qu.length (g.qu.length + 40)) := HO9.out w9 (Below.refl _ _) 4 _ rfl
 have m5 : w9.cell? ⟨O6, 5, none⟩ = some (.int .u64 (g.next : Int)) := HO9.out w9 (Below.refl _ _) 5 _ rfl
 have q := lRetained_any w9.heap.size w9 _ _ _ _ _ os9 ts9 g9 (HG9.out w9 (Below.refl _ _)) (Nat.le_refl _) (HL.out _ HB9.out) HBG9.out
 rw [HX9.out] at q
 go_wp2_with fail
 refine q.mono ?_
 rintro e wa ⟨va, la, ea, rfl, oa, ba', pa⟩
 have HBa : Hid (Below w9.heap.size w9 wa) := ba'
 have HPa : Hid (Pr18 g9 la ea) := pa
 have HOa : Hid (Lrd wa.heap.size wa va .i64 la) := oa
 obtain ⟨xa, ya, eva, -⟩ := id oa
 subst eva
 clear q oa ba' pa m0 m1 m2 m3 m4 m5
 have m0 : wa.cell? ⟨O6, 0, none⟩ = some (.slice (some ⟨b1, 0, none⟩) os2.length (os2.length + 8)) := HO9.out wa HBa.out 0 _ rfl
 have m1 : wa.cell? ⟨O6, 1, none⟩ = some (.slice (some ⟨b2, 0, none⟩) ts2.length (ts2.length + 8)) := HO9.out wa HBa.out 1 _ rfl
 have m2 : wa.cell? ⟨O6, 2, none⟩ = some (.slice (some ⟨b3, 0, none⟩) g.hs.length (g.hs.length + 40)) := HO9.out wa HBa.out 2 _ rfl
 have m3 : wa.cell? ⟨O6, 3, none⟩ = some (.slice (some ⟨b4, 0, none⟩) g.rg.length (g.rg.length + 40)) := HO9.out wa HBa.out 3 _ rfl
 have m4 : wa.cell? ⟨O6, 4, none⟩ = some (.slice (some ⟨b5, 0, none⟩) g.qu.length (g.qu.length + 40)) := HO9.out wa HBa.out 4 _ rfl
 have m5 : wa.cell? ⟨O6, 5, none⟩ = some (.int .u64 (g.next : Int)) := HO9.out wa HBa.out 5 _ rfl
 have q := r17Retained_any w9.heap.size wa _ _ _ _ _ os9 ts9 g9 (HG9.out wa HBa.out) HBa.out.size HBG9.out
 rw [HX9.out] at q
 go_wp2_with fail
 refine q.mono ?_
 rintro e wb ⟨vb, lb, eb, rfl, ob, bb', pb⟩
 have hla : la.length ≤ 4611686018427387904 := by
  have h1 := HPa.out.len
  have h2 : g9.obs.length = os9.length := by rw [(HG9.out w9 (Below.refl _ _)).eo, List.length_map]
  have h3 := HBG9.out.o
  omega
 obtain ⟨el, ee⟩ := HPa.out.uniq pb
 subst el ee
 have HBb : Hid (Below w.heap.size w wb) := HB9.out.trans ((HBa.out.trans (bb'.mono HBa.out.size)).mono HB9.out.size)
 have HOb : Hid (Il wb wa.heap.size vb la) := ob
 have HOa' : Hid (Lrd wb.heap.size wb (.slice xa la.length ya) .i64 la) := (HOa.out.below bb').mono bb'.size
 obtain ⟨xb, yb, rfl⟩ := own_sl17 ob
 clear q ob bb' pb m0 m1 m2 m3 m4 m5
 have q := same17_eq wb.heap.size _ _ la wb HOa'.out (HOb.out.lrd) hla
 go_wp2_with fail
 refine q.mono ?_
 rintro e wc ⟨rfl, nq, rfl⟩
 have HBc : Hid (Below w.heap.size w (wb.drewN nq)) := below_drewN HBb.out nq
 clear q
 go_wp2
 go_ret
 exact ⟨rfl, HBc.out⟩
end Go.Proofs.YtckgcpoheodbcaaGreatDoor
namespace Go.Proofs.YtckgcpoheodbcaaGreatDoor
open Go.ChangeShapes Go.WideShapes Go.ChangeAt Go.WideMaps Go.WideElems Go.RowKit Go.Shelf
theorem gn3 : Tryz.prog.cellsOf 3 = 1 := by kernel_rfl
theorem gnu : Tryz.prog.cellsOf 25 = 1 := by kernel_rfl
theorem gni : Tryz.prog.cellsOf 24 = 1 := by kernel_rfl
theorem gnw : Tryz.prog.cellsOf 59 = 1 := by kernel_rfl
theorem gnf : Tryz.prog.cellsOf 30 = 1 := by kernel_rfl
theorem gnt : Tryz.prog.cellsOf 23 = 1 := by kernel_rfl
theorem gno : Tryz.prog.cellsOf 61 = 5 := by kernel_rfl
theorem gnos : Tryz.prog.cellsOf 22 = 1 := by kernel_rfl
theorem gng : Tryz.prog.cellsOf 27 = 6 := by kernel_rfl
theorem gplus (g off n : Nat) : (⟨g, off, none⟩ : Addr).add n = ⟨g, off + n, none⟩ := Addr.add_lit _ _ _
theorem gin {a : Int} (h : (Lit.int .i64 a).wf = true) : InI a := by
 simp [Lit.wf, IntKind.min, IntKind.max, IntKind.signed, IntKind.bits] at h
 unfold InI
 omega
theorem ginu {a : Int} (h : (Lit.int .u64 a).wf = true) : 0 ≤ a ∧ a < 18446744073709551616 := by
 simp [Lit.wf, IntKind.min, IntKind.max, IntKind.signed, IntKind.bits] at h
 omega
variable {H : Type} {enc : TypeId × Value → H} {w : World} {base : Nat} {sp : Nat → Bool} {held : Bool}
theorem glist5 {α : Type} {cs : List α} (h : cs.length = 5) : ∃ c0 c1 c2 c3 c4, cs = [c0, c1, c2, c3, c4] := by
 match cs, h with
 | [a, b, c, d, e], _ => exact ⟨a, b, c, d, e, rfl⟩
theorem garray6 {α : Type} {cs : Array α} (h : cs.size = 6) : ∃ c0 c1 c2 c3 c4 c5, cs = #[c0, c1, c2, c3, c4, c5] := by
 obtain ⟨l⟩ := cs
 match l, h with
 | [a, b, c, d, e, f], _ => exact ⟨a, b, c, d, e, f, rfl⟩
end Go.Proofs.YtckgcpoheodbcaaGreatDoor
