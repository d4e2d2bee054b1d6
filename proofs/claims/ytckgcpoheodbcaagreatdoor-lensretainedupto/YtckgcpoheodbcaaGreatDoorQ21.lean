import Derived.Test.YtckgcpoheodbcaaGreatDoorQ20
import Derived.Test.YtckgcpoheodbcaaGreatDoorQ17
set_option linter.unusedVariables false
set_option maxHeartbeats 8000000
set_option maxRecDepth 20000
namespace Go.Proofs.YtckgcpoheodbcaaGreatDoor
open Go.RowKit Go.Shelf Go.Proofs.YtckgcpoheodbcaaGreatDoor.Lt
def smb (w : Nat → Nat) (ins : Nat → Bool) : Nat → Nat
 | 0 => 0
 | k + 1 => smb w ins k + (if ins (k + 1) = true then w (k + 1) else 0)
theorem smb_sm {w : Nat → Nat} {ins : Nat → Bool} {p : Nat → Prop} (h : ∀ x, ins x = true ↔ p x) : ∀ k, smb w ins k = sm w p (List.range' 1 k)
 | 0 => rfl
 | k + 1 => by
  have ih := smb_sm (w := w) h k
  have e : List.range' 1 (k + 1) = List.range' 1 k ++ [k + 1] := by rw [List.range'_1_concat]; congr 2; omega
  rw [e]
  unfold sm at ih ⊢
  rw [List.map_append, List.sum_append, ← ih]
  show smb w ins k + _ = _
  congr 1
  simp only [List.map_cons, List.map_nil, List.sum_cons, List.sum_nil, Nat.add_zero]
  by_cases hp : p (k + 1)
  ·rw [if_pos ((h _).2 hp), if_pos hp]
  ·rw [if_neg (fun k => hp ((h _).1 k)), if_neg hp]
theorem smb_le {w : Nat → Nat} {ins : Nat → Bool} {c : Nat} (hc : ∀ x, w x ≤ c) : ∀ k, smb w ins k ≤ k * c
 | 0 => Nat.zero_le _
 | k + 1 => by
  have ih := smb_le (ins := ins) hc k
  have h1 := hc (k + 1)
  show smb w ins k + _ ≤ _
  rw [Nat.succ_mul]
  split <;> omega
theorem sum17_any (n0 : Nat) (w : World) (vo vs vh vr vq : Value) (os : List OL) (ts : List (Value × List (Value × List Int))) (g : Im.Gr) (hg : Grd n0 w vo vs vh vr vq os ts g) (hn : n0 ≤ w.heap.size) (hw : ∀ x, wd17 g x ≤ 2000000) (hol : os.length ≤ 2000000) (ib : Nat) (ins : Nat → Bool) (hi : Fb w ib (os.length + 1) ins) :
  Calls Tryz.prog 35 #[.agg (gcs vo vs vh vr vq g.next), .slice (some ⟨ib, 0, none⟩) (os.length + 1) (os.length + 1)] w fun e w' => e = .returned (.int .i64 (smb (wd17 g) ins os.length : Nat)) ∧ Below w.heap.size w w' := by
 have HO : Hid (∀ (i : Nat) x, os[i]? = some x → wd17 g (i + 1) = 2 + x.o.ps.length + x.o.rs.length) := fun i x hx => by
  unfold wd17
  rw [if_neg (by omega), Nat.add_sub_cancel, hg.eo, List.getElem?_map, hx]
  rfl
 have l1 : Below w.heap.size w (w.alloc (.cells (gcs vo vs vh vr vq g.next) 27)) := Below.alloc (Below.refl _ _) (Nat.le_refl _) _
 have hx := heap_alloc_new w (.cells (gcs vo vs vh vr vq g.next) 27 (0, 0))
 obtain ⟨oa, oc, eo, -⟩ := id hg.ob
 subst eo
 generalize hW : w.alloc (.cells (gcs (.slice oa os.length oc) vs vh vr vq g.next) 27) = W at *
 have HL1 : Hid (Below w.heap.size w W) := l1
 have HXB : Hid (∀ w', Below W.heap.size W w' → w'.heap[w.heap.size]? = some (.cells (gcs (.slice oa os.length oc) vs vh vr vq g.next) 27 (0, 0)) ∧ Below w.heap.size w w' ∧ Grd n0 w' (.slice oa os.length oc) vs vh vr vq os ts g ∧ Fb w' ib (os.length + 1) ins) := fun w' b' => ⟨(b'.block _ (Kg.heap_lt hx)).trans hx, l1.trans (b'.mono l1.size), hg.below ((l1.trans (b'.mono l1.size)).mono hn), hi.below (l1.trans (b'.mono l1.size))⟩
 have HWc : Hid (∀ x, wd17 g x ≤ 2000000) := hw
 clear hg hx l1 hi hw
 obtain ⟨m, hmm⟩ : ∃ m, m = os.length + 1 := ⟨_, rfl⟩
 have Hmm : Hid (m = os.length + 1) := hmm
 have hm2 : m ≤ 2000001 := by omega
 rw [← hmm] at HXB ⊢
 clear hmm
 go_enter Tryz.func35, Tryz.ntmps35
 go_wp2
 go_loopw [5, 6] (fun v5 v6 wr => ∃ k : Nat, v6 = .int .i64 ((k + 1 : Nat) : Int) ∧ k + 1 ≤ m ∧ v5 = .int .i64 (smb (wd17 g) ins k : Nat) ∧ Hid (Below W.heap.size W wr)) (fun _ v6 _ => m - (intOf v6).toNat)
 case atStart => exact ⟨0, rfl, by have := Hmm.out; omega, rfl, Below.refl _ _⟩
 case round =>
  obtain ⟨k, rfl, hk, rfl, R1⟩ := hrel
  by_cases hkl : k + 1 < m
  ·have hki : ((k + 1 : Nat) : Int) < (m : Int) := by omega
   obtain ⟨hgb, -, gr, fb⟩ := HXB.out wr R1.out
   have cb := fb.cell hkl
   have hsb := smb_le (ins := ins) HWc.out k
   have hsB : smb (wd17 g) ins k ≤ 5000000000000 := by
    have : k * 2000000 ≤ 2000001 * 2000000 := Nat.mul_le_mul_right _ (by omega)
    omega
   have hkx : ((k + 1 : Nat) : Int) - 1 = (k : Int) := by omega
   have hko : k < os.length := by have := Hmm.out; omega
   have hkoI : (k : Int) < (os.length : Int) := by omega
   obtain ⟨bi, hbi⟩ : ∃ bi, bi = ins (k + 1) := ⟨_, rfl⟩
   rw [← hbi] at cb
   have HBI : Hid (bi = ins (k + 1)) := hbi
   clear hbi
   cases bi with
   | false =>
    have HN : Hid (smb (wd17 g) ins (k + 1) = smb (wd17 g) ins k) := by
     show smb (wd17 g) ins k + _ = _
     rw [← HBI.out]
     rfl
    clear hgb gr fb
    go_wp2
    go_roundw
    case rel => exact ⟨k + 1, by go_num, by omega, by rw [HN.out], R1⟩
    case measure => simp [intOf]; omega
   | true =>
    have hz : os[k]? = some (os[k]'hko) := List.getElem?_eq_getElem hko
    generalize os[k]'hko = o at hz
    have HN : Hid (smb (wd17 g) ins (k + 1) = smb (wd17 g) ins k + (2 + o.o.ps.length + o.o.rs.length)) := by
     show smb (wd17 g) ins k + _ = _
     rw [← HBI.out, ← HO.out k o hz]
     rfl
    have hwo : 2 + o.o.ps.length + o.o.rs.length ≤ 2000000 := by rw [← HO.out k o hz]; exact HWc.out _
    have y0 : wr.cell? ⟨w.heap.size, 0, none⟩ = some (.slice oa os.length oc) := Kg.heap_cell hgb 0
    obtain ⟨oa', oc', eo, hob⟩ := gr.ob
    simp only [Value.slice.injEq] at eo
    obtain ⟨rfl, -, rfl⟩ := eo
    obtain ⟨lp, lr, qo, off, rfl, hqo, hco⟩ := hob k o hz
    have c3 := (hco 3 (by omega)).trans (show _ = some o.vp from rfl)
    have c4 := (hco 4 (by omega)).trans (show _ = some o.vr from rfl)
    obtain ⟨pa, pc, ep, -, -⟩ := id lp
    obtain ⟨ra, rc, er, -, -⟩ := id lr
    rw [List.length_map] at er
    rw [ep] at c3
    rw [er] at c4
    clear hgb gr fb hob hco hz lp lr ep er
    generalize smb (wd17 g) ins k = sk at *
    go_upto_region 6 with fail
    go_quiet (fail)
    have R2 : Hid (Below W.heap.size W (wr.drewN nq)) := below_drewN R1.out nq
    clear c3 c4 y0 R1
    generalize wr.drewN nq = w2 at *
    go_wp2
    go_roundw
    case rel => exact ⟨k + 1, by go_num, by omega, by rw [HN.out]; go_num, R2⟩
    case measure => simp [intOf]; omega
  ·have hki : ¬ ((k + 1 : Nat) : Int) < (m : Int) := by omega
   have e9 : k = os.length := by have := Hmm.out; omega
   subst e9
   have HB : Hid (Below w.heap.size w wr) := (HXB.out wr R1.out).2.1
   go_wp2
   go_ret
   exact ⟨rfl, HB.out⟩
def sm0 (wd : Nat → Nat) (ins : Nat → Bool) : Nat → Nat
 | 0 => 0
 | k + 1 => sm0 wd ins k + (if ins k = true then wd k else 0)
theorem sm0_smb {wd : Nat → Nat} {ins : Nat → Bool} (h : wd 0 = 0) : ∀ k, sm0 wd ins (k + 1) = smb wd ins k
 | 0 => by
  show 0 + _ = 0
  rw [h]
  split <;> rfl
 | k + 1 => by
  have ih := sm0_smb (ins := ins) h k
  show sm0 wd ins (k + 1) + _ = smb wd ins k + _
  rw [ih]
theorem sm0_le {wd : Nat → Nat} {ins : Nat → Bool} {c : Nat} (hc : ∀ x, wd x ≤ c) : ∀ k, sm0 wd ins k ≤ k * c
 | 0 => Nat.zero_le _
 | k + 1 => by
  have ih := sm0_le (ins := ins) hc k
  have h1 := hc k
  show sm0 wd ins k + _ ≤ _
  rw [Nat.succ_mul]
  split <;> omega
theorem met_any (m : Nat) (hm : m ≤ 2000001) (wd : Nat → Nat) (hwd : ∀ x, wd x ≤ 2000000) (n0 : Nat) (w : World) (vw : Value) (hw : Lrd n0 w vw .i64 ((List.range m).map (fun x => (wd x : Int)))) (bb : Nat) (f : Nat → Int) (hb : Fy w bb m f) :
  Calls Tryz.prog 62 #[vw, .slice (some ⟨bb, 0, none⟩) m m] w fun e w' => e = .returned (.int .i64 (sm0 wd (fun x => f x != -1) m : Nat)) ∧ w' = w := by
 obtain ⟨wa, wc, ew, -, hp⟩ := hw
 rw [List.length_map, List.length_range] at ew
 subst ew
 have HP : Hid (∀ x, x < m → ∃ q off, wa = some ⟨q, off, none⟩ ∧ w.cell? ⟨q, off + x, none⟩ = some (.int .i64 (wd x : Nat))) := fun x hx => by
  obtain ⟨q, off, h1, -, h2⟩ := hp x (wd x : Int) (by rw [List.getElem?_map, List.getElem?_range hx]; rfl)
  exact ⟨q, off, h1, h2⟩
 have HB : Hid (∀ x, x < m → w.cell? ⟨bb, x, none⟩ = some (.int .i64 (f x))) := fun x hx => hb.cell hx
 have HWd : Hid (∀ x, wd x ≤ 2000000) := hwd
 clear hp hb hwd
 go_enter Tryz.func62, Tryz.ntmps62
 go_wp2
 go_loopw [5, 6, 7, 10] (fun v5 _ _ v10 wr => ∃ k : Nat, v10 = .int .i64 (k : Nat) ∧ k ≤ m ∧ v5 = .int .i64 (sm0 wd (fun x => f x != -1) k : Nat) ∧ wr = w) (fun _ _ _ v10 _ => m - (intOf v10).toNat)
 case atStart => exact ⟨0, rfl, Nat.zero_le _, rfl, rfl⟩
 case round =>
  obtain ⟨k, rfl, hk, rfl, rfl⟩ := hrel
  by_cases hkm : k < m
  ·have hki : (k : Int) < (m : Int) := by omega
   have cb := HB.out k hkm
   obtain ⟨q, off, rfl, cw⟩ := HP.out k hkm
   have hsb := sm0_le (ins := fun x => f x != -1) HWd.out k
   have hsB : sm0 wd (fun x => f x != -1) k ≤ 5000000000000 := by
    have : k * 2000000 ≤ 2000001 * 2000000 := Nat.mul_le_mul_right _ (by omega)
    omega
   have hwk := HWd.out k
   by_cases hf : f k = -1
   ·have g1 : (f k != -1) = false := by rw [hf]; rfl
    have HN : Hid (sm0 wd (fun x => f x != -1) (k + 1) = sm0 wd (fun x => f x != -1) k) := by
     show sm0 wd (fun x => f x != -1) k + (if (f k != -1) = true then wd k else 0) = _
     rw [g1]
     rfl
    clear hf
    go_wp2
    go_roundw
    case rel => exact ⟨k + 1, by go_num, by omega, by rw [HN.out], trivial⟩
    case measure => simp [intOf]; omega
   ·have g1 : (f k != -1) = true := bne_iff_ne.2 hf
    have HN : Hid (sm0 wd (fun x => f x != -1) (k + 1) = sm0 wd (fun x => f x != -1) k + wd k) := by
     show sm0 wd (fun x => f x != -1) k + (if (f k != -1) = true then wd k else 0) = _
     rw [g1]
     rfl
    clear hf
    generalize sm0 wd (fun x => f x != -1) k = sk at *
    go_wp2
    go_roundw
    case rel => exact ⟨k + 1, by go_num, by omega, by rw [HN.out]; go_num, trivial⟩
    case measure => simp [intOf]; omega
  ·have hki : ¬ (k : Int) < (m : Int) := by omega
   have e9 : k = m := by omega
   subst e9
   go_wp2
   go_ret
   exact ⟨rfl, rfl⟩
theorem lsize_any (a b c : Int) (pa ra : Option Addr) (pl pc rl rc : Nat) (hp : pl ≤ 2000000) (hr : rl ≤ 2000000) (w : World) :
  Calls Tryz.prog 80 #[.agg (ocs a b c (.slice pa pl pc) (.slice ra rl rc))] w fun e w' => e = .returned (.int .i64 ((2 + pl + rl : Nat) : Int)) ∧ Below w.heap.size w w' := by
 have l1 : Below w.heap.size w (w.alloc (.cells (ocs a b c (.slice pa pl pc) (.slice ra rl rc)) 61)) := Below.alloc (Below.refl _ _) (Nat.le_refl _) _
 have h1 := heap_alloc_new w (.cells (ocs a b c (.slice pa pl pc) (.slice ra rl rc)) 61 (0, 0))
 have HL : Hid (Below w.heap.size w (w.alloc (.cells (ocs a b c (.slice pa pl pc) (.slice ra rl rc)) 61))) := l1
 generalize hW : w.alloc (.cells (ocs a b c (.slice pa pl pc) (.slice ra rl rc)) 61) = W at *
 have c3 : W.cell? ⟨w.heap.size, 3, none⟩ = some (.slice pa pl pc) := Kg.heap_cell h1 3
 have c4 : W.cell? ⟨w.heap.size, 4, none⟩ = some (.slice ra rl rc) := Kg.heap_cell h1 4
 clear l1 h1
 go_enter Tryz.func80, Tryz.ntmps80
 go_wp2
 go_ret
 refine ⟨?_, HL.out⟩
 congr 2
def wl17 (g : Im.Gr) (m : Nat) : List Int := (List.range m).map (fun x => (wd17 g x : Int))
theorem wordsOf_any (n0 : Nat) (w : World) (vo vs vh vr vq : Value) (os : List OL) (ts : List (Value × List (Value × List Int))) (g : Im.Gr) (hg : Grd n0 w vo vs vh vr vq os ts g) (hn : n0 ≤ w.heap.size) (hw : ∀ x, wd17 g x ≤ 2000000) (hol : os.length ≤ 2000000) :
  Calls Tryz.prog 53 #[.agg (gcs vo vs vh vr vq g.next)] w fun e w' => ∃ v, e = .returned v ∧ Il w' w.heap.size v (wl17 g (os.length + 1)) ∧ Below w.heap.size w w' := by
 have HO : Hid (∀ (i : Nat) x, os[i]? = some x → wd17 g (i + 1) = 2 + x.o.ps.length + x.o.rs.length) := fun i x hx => by
  unfold wd17
  rw [if_neg (by omega), Nat.add_sub_cancel, hg.eo, List.getElem?_map, hx]
  rfl
 have l1 : Below w.heap.size w (w.alloc (.cells (gcs vo vs vh vr vq g.next) 27)) := Below.alloc (Below.refl _ _) (Nat.le_refl _) _
 have hx := heap_alloc_new w (.cells (gcs vo vs vh vr vq g.next) 27 (0, 0))
 obtain ⟨oa, oc, eo, -⟩ := id hg.ob
 subst eo
 generalize hW : w.alloc (.cells (gcs (.slice oa os.length oc) vs vh vr vq g.next) 27) = W at *
 have HL1 : Hid (Below w.heap.size w W) := l1
 have HXB : Hid (∀ w', Below W.heap.size W w' → w'.heap[w.heap.size]? = some (.cells (gcs (.slice oa os.length oc) vs vh vr vq g.next) 27 (0, 0)) ∧ Below w.heap.size w w' ∧ Grd n0 w' (.slice oa os.length oc) vs vh vr vq os ts g) := fun w' b' => ⟨(b'.block _ (Kg.heap_lt hx)).trans hx, l1.trans (b'.mono l1.size), hg.below ((l1.trans (b'.mono l1.size)).mono hn)⟩
 have HWc : Hid (∀ x, wd17 g x ≤ 2000000) := hw
 clear hg hx l1 hw
 obtain ⟨i0, hi0, hj0, hj1, hj2⟩ := info_p17 infoI17
 have HI : Hid (Tryz.prog.info? 3 = some i0 ∧ i0.zero = some (.int .i64 0) ∧ i0.size = 1 ∧ i0.bytes = 8) := ⟨hi0, hj0, hj1, hj2⟩
 clear hi0 hj0 hj1 hj2
 have b1 : Below W.heap.size W (W.alloc (.cells #[.int .i64 0] 3)) := Below.alloc (Below.refl _ _) (Nat.le_refl _) _
 have HB1 : Hid (Below W.heap.size W (W.alloc (.cells #[.int .i64 0] 3))) := b1
 have HI1 : Hid (Il (W.alloc (.cells #[.int .i64 0] 3)) W.heap.size (.slice (some ⟨W.heap.size, 0, none⟩) 1 1) [0]) := row_one W (.int .i64 0) 3
 have y0 : (W.alloc (.cells #[.int .i64 0] 3)).cell? ⟨w.heap.size, 0, none⟩ = some (.slice oa os.length oc) := Kg.heap_cell (HXB.out _ b1).1 0
 clear b1
 go_enter Tryz.func53, Tryz.ntmps53
 go_upto_region 2 with fail
 obtain ⟨B, hB⟩ : ∃ B, B = W.heap.size := ⟨_, rfl⟩
 rw [← hB] at HI1 ⊢
 have HBW : Hid (W.heap.size ≤ B ∧ B < (W.alloc (.cells #[.int .i64 0] 3)).heap.size ∧ w.heap.size ≤ B) := ⟨by omega, by rw [hB]; simp, by rw [hB]; exact HL1.out.size⟩
 clear hB
 generalize W.alloc (.cells #[.int .i64 0] 3) = w1 at *
 go_wp2
 go_loopw [3, 10] (fun v3 v10 wr => ∃ (k : Nat) (a : Option Addr) (c : Nat), v10 = .int .i64 (k : Nat) ∧ k ≤ os.length ∧ v3 = .slice a (k + 1) c ∧ Hid (Il wr B (.slice a (k + 1) c) ((List.range (k + 1)).map (fun x => (wd17 g x : Int)))) ∧ Hid (Below W.heap.size W wr) ∧ Hid (B ≤ wr.heap.size)) (fun _ v10 _ => os.length - (intOf v10).toNat)
 case atStart => exact ⟨0, _, 1, rfl, Nat.zero_le _, rfl, HI1.out, HB1.out, Nat.le_of_lt HBW.out.2.1⟩
 case round =>
  obtain ⟨k, a3, c3, rfl, hk, rfl, R1, R2, R3⟩ := hrel
  clear y0
  by_cases hkl : k < os.length
  ·have hki : (k : Int) < (os.length : Int) := by omega
   have hz : os[k]? = some (os[k]'hkl) := List.getElem?_eq_getElem hkl
   generalize os[k]'hkl = o at hz
   obtain ⟨hgb, -, gr⟩ := HXB.out wr R2.out
   obtain ⟨oa', oc', eo, hob⟩ := gr.ob
   simp only [Value.slice.injEq] at eo
   obtain ⟨rfl, -, rfl⟩ := eo
   obtain ⟨lp, lr, qo, off, rfl, hqo, hco⟩ := hob k o hz
   have HWk : Hid (wd17 g (k + 1) = 2 + o.o.ps.length + o.o.rs.length) := HO.out k o hz
   have hwk : 2 + o.o.ps.length + o.o.rs.length ≤ 2000000 := by rw [← HWk.out]; exact HWc.out _
   have c0 := (hco 0 (by omega)).trans (show _ = some (Value.int .u64 (o.o.ser : Int)) from rfl)
   have c1 := (hco 1 (by omega)).trans (show _ = some (Value.int .i64 o.o.kind) from rfl)
   have c2 := (hco 2 (by omega)).trans (show _ = some (Value.int .i64 o.o.site) from rfl)
   have c3' := (hco 3 (by omega)).trans (show _ = some o.vp from rfl)
   have c4 := (hco 4 (by omega)).trans (show _ = some o.vr from rfl)
   rw [Nat.add_zero] at c0
   obtain ⟨pa, pc, ep, -, -⟩ := id lp
   obtain ⟨ra, rc, er, -, -⟩ := id lr
   rw [List.length_map] at er
   rw [ep] at c3'
   rw [er] at c4
   have b5 := Below.alloc (Below.refl wr.heap.size wr) (Nat.le_refl _) (.cells (ocs o.o.ser o.o.kind o.o.site (.slice pa o.o.ps.length pc) (.slice ra o.o.rs.length rc)) 61 (0, 0))
   have h5 := heap_alloc_new wr (.cells (ocs o.o.ser o.o.kind o.o.site (.slice pa o.o.ps.length pc) (.slice ra o.o.rs.length rc)) 61 (0, 0))
   clear hob hco hz gr lp lr hgb ep er
   go_upto_region 5 with fail
   obtain ⟨X, hX⟩ : ∃ X, X = wr.heap.size := ⟨_, rfl⟩
   have B5 : Hid (Below W.heap.size W (wr.alloc (.cells (ocs o.o.ser o.o.kind o.o.site (.slice pa o.o.ps.length pc) (.slice ra o.o.rs.length rc)) 61))) := R2.out.trans (b5.mono R2.out.size)
   have I5 : Hid (Il (wr.alloc (.cells (ocs o.o.ser o.o.kind o.o.site (.slice pa o.o.ps.length pc) (.slice ra o.o.rs.length rc)) 61)) B (.slice a3 (k + 1) c3) ((List.range (k + 1)).map (fun x => (wd17 g x : Int)))) := R1.out.below b5
   have S5 : Hid (B ≤ (wr.alloc (.cells (ocs o.o.ser o.o.kind o.o.site (.slice pa o.o.ps.length pc) (.slice ra o.o.rs.length rc)) 61)).heap.size) := Nat.le_trans R3.out b5.size
   have H5 : Hid ((wr.alloc (.cells (ocs o.o.ser o.o.kind o.o.site (.slice pa o.o.ps.length pc) (.slice ra o.o.rs.length rc)) 61)).heap[X]? = some (.cells (ocs o.o.ser o.o.kind o.o.site (.slice pa o.o.ps.length pc) (.slice ra o.o.rs.length rc)) 61 (0, 0))) := by rw [hX]; exact h5
   change Code.wp _ _ _ _ (wr.alloc (.cells (ocs o.o.ser o.o.kind o.o.site (.slice pa o.o.ps.length pc) (.slice ra o.o.rs.length rc)) 61))
   rw [← hX]
   clear c0 c1 c2 c3' c4 b5 h5 hX R1 R2 R3
   generalize wr.alloc (.cells (ocs o.o.ser o.o.kind o.o.site (.slice pa o.o.ps.length pc) (.slice ra o.o.rs.length rc)) 61) = w5 at *
   have x0 := (Kg.heap_cell H5.out 0).trans (show _ = some (Value.int .u64 (o.o.ser : Int)) from rfl)
   have x1 := (Kg.heap_cell H5.out 1).trans (show _ = some (Value.int .i64 o.o.kind) from rfl)
   have x2 := (Kg.heap_cell H5.out 2).trans (show _ = some (Value.int .i64 o.o.site) from rfl)
   have x3 := (Kg.heap_cell H5.out 3).trans (show _ = some (Value.slice pa o.o.ps.length pc) from rfl)
   have x4 := (Kg.heap_cell H5.out 4).trans (show _ = some (Value.slice ra o.o.rs.length rc) from rfl)
   have q := lsize_any o.o.ser o.o.kind o.o.site pa ra o.o.ps.length pc o.o.rs.length rc (by omega) (by omega) w5
   rw [← HWk.out] at q
   go_wp2_with fail
   refine q.mono ?_
   rintro e w6 ⟨rfl, b6⟩
   have B6 : Hid (Below W.heap.size W w6) := B5.out.trans (b6.mono B5.out.size)
   have I6 : Hid (Il w6 B (.slice a3 (k + 1) c3) ((List.range (k + 1)).map (fun x => (wd17 g x : Int)))) := I5.out.below b6
   have S6 : Hid (B ≤ w6.heap.size) := Nat.le_trans S5.out b6.size
   clear q b6 x0 x1 x2 x3 x4 B5 I5 S5 H5 hwk
   obtain ⟨wk, hwk⟩ : ∃ wk, wk = wd17 g (k + 1) := ⟨_, rfl⟩
   have HKW : Hid (wk = wd17 g (k + 1)) := hwk
   rw [← hwk]
   clear hwk
   have HRow : Hid ((w6.alloc (.cells #[.int .i64 (wk : Nat)] 3)).ownsRow B 3 1 (.slice a3 (k + 1) c3) (k + 1) (Kg.ints ((List.range (k + 1)).map (fun x => (wd17 g x : Int))))) := by
    have h9 := Il.below I6.out (Below.alloc (Below.refl w6.heap.size w6) (Nat.le_refl _) (.cells #[.int .i64 (wk : Nat)] 3))
    unfold Il at h9
    rw [List.length_map, List.length_range] at h9
    exact h9
   go_wp2_with (at_builtin; refine wpList_append_own_at _ rfl _ _ 24 rfl B 3 i0 (.int .i64 0) 1 8 Tryz.underlying24 HI.out.1 HI.out.2.1 HI.out.2.2.1 HI.out.2.2.2 rfl (by decide) _ _ _ rfl HRow.out ⟨w6.heap.size, 0, none⟩ 1 1 [.int .i64 (wk : Nat)] rfl rfl (cell_one17 _ _ _) (by simp [Value.oneCell']) (by simp only [maxLen]; omega) (by omega) (by have := S6.out; simp; omega) ?_; intro v8 w8 h8 g8 _ _)
   go_roundw
   case rel =>
    obtain ⟨y1, y2, y3⟩ := Il.snoc (x := (wk : Nat)) I6.out (by rw [List.length_map, List.length_range]; exact h8) g8 S6.out
    obtain ⟨a8, c8, rfl⟩ := own_sl17 h8
    have e9 : (List.range (k + 1 + 1)).map (fun x => (wd17 g x : Int)) = (List.range (k + 1)).map (fun x => (wd17 g x : Int)) ++ [(wk : Int)] := by
     rw [List.range_succ, List.map_append, HKW.out]
     rfl
    refine ⟨k + 1, a8, c8, by go_num, by omega, rfl, ?_, B6.out.trans (y3.mono HBW.out.1), ?_⟩
    ·show Il _ _ _ _
     rw [e9]
     exact y1
    ·have h1 := y3.size
     have h2 := S6.out
     show _ ≤ _
     omega
   case measure => simp [intOf]; omega
  ·have hki : ¬ (k : Int) < (os.length : Int) := by omega
   have e9 : k = os.length := by omega
   subst e9
   have HE : Hid (Below w.heap.size w wr ∧ Il wr w.heap.size (.slice a3 (os.length + 1) c3) (wl17 g (os.length + 1))) := ⟨(HXB.out wr R2.out).2.1, Kg.row_base R1.out HBW.out.2.2⟩
   clear R1 R2 R3
   go_wp2
   go_ret
   exact ⟨_, rfl, HE.out.2, HE.out.1⟩
end Go.Proofs.YtckgcpoheodbcaaGreatDoor
