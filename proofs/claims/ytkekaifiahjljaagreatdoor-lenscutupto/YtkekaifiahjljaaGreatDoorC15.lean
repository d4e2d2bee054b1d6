import Derived.Test.YtkekaifiahjljaaGreatDoorC13
import Derived.Test.YtkekaifiahjljaaGreatDoorC14
import Derived.Deep.CutBlock
import Derived.Test.YtkekaifiahjljaaGreatDoorC10
import Derived.Shelf.SlicesE.Reverse
import Derived.Shelf.SlicesE.DeleteFunc
import Derived.Shelf.SortM.Plain
import Derived.Shelf.SortM.SortNone
import Derived.Ground.SlgfProg
import Derived.Ground.SlgnProg
import Derived.Ground.SlgmProg
import Derived.Shelf.SlGeneric
import Derived.Test.YtkekaifiahjljaaGreatDoorProg
import Derived.Shelf.Small.Wraps
import Derived.Ground.Names2Prog
import Derived.Shelf.Slices.Delete
import Derived.Lib.OwnBridge
import Derived.RegionTactic
import Derived.ChangeAlike
import Derived.BigRegion
import Derived.Deep.RegionWith
import Derived.Test.YtkekaifiahjljaaGreatDoorC11
set_option linter.unusedVariables false
set_option maxHeartbeats 8000000
set_option maxRecDepth 20000
namespace Go.Proofs.YtkekaifiahjljaaGreatDoor
open Go.RowKit Go.Shelf Go.Proofs.YtkekaifiahjljaaGreatDoor.Lt
def Lse (P : Nat → Prop) (j : Nat) : Prop := P j ∧ ∀ i, P i → j ≤ i
theorem Lse.ex {P : Nat → Prop} (h : ∃ j, P j) : ∃ j, Lse P j := by
  obtain ⟨j, hj⟩ := h
  induction j using Nat.strongRecOn with
  | _ j ih =>
    by_cases e : ∃ i, i < j ∧ P i
    · obtain ⟨i, h1, h2⟩ := e
      exact ih i h1 h2
    · exact ⟨j, hj, fun i hi => Nat.le_of_not_lt fun hl => e ⟨i, hl, hi⟩⟩
theorem epe_spec {P : Nat → Prop} (h : ∃ j, P j) : P (Classical.epsilon (Lse P)) := (Classical.epsilon_spec (Lse.ex h)).1
theorem epe_le {P : Nat → Prop} {j : Nat} (h : P j) : Classical.epsilon (Lse P) ≤ j := (Classical.epsilon_spec (Lse.ex ⟨j, h⟩)).2 j h
def smb (w : Nat → Nat) (ins : Nat → Bool) : Nat → Nat
  | 0 => 0
  | k + 1 => smb w ins k + (if ins (k + 1) = true then w (k + 1) else 0)
theorem smb_sm {w : Nat → Nat} {ins : Nat → Bool} {p : Nat → Prop} (h : ∀ x, ins x = true ↔ p x) : ∀ k, smb w ins k = sm w p (List.range' 1 k)
  | 0 => rfl
  | k + 1 => by
    have ih := smb_sm (w := w) h k
    have e : List.range' 1 (k + 1) = List.range' 1 k ++ [k + 1] := by rw [List.range'_1_concat]; congr 2; omega
    rw [e]
    unfold sm at ih ⊢
    rw [List.map_append, List.sum_append, ← ih]
    show smb w ins k + _ = _
    congr 1
    simp only [List.map_cons, List.map_nil, List.sum_cons, List.sum_nil, Nat.add_zero]
    by_cases hp : p (k + 1)
    · rw [if_pos ((h _).2 hp), if_pos hp]
    · rw [if_neg (fun k => hp ((h _).1 k)), if_neg hp]
theorem smb_le {w : Nat → Nat} {ins : Nat → Bool} {c : Nat} (hc : ∀ x, w x ≤ c) : ∀ k, smb w ins k ≤ k * c
  | 0 => Nat.zero_le _
  | k + 1 => by
    have ih := smb_le (ins := ins) hc k
    have h1 := hc (k + 1)
    show smb w ins k + _ ≤ _
    rw [Nat.succ_mul]
    split <;> omega
theorem words17_any (n0 : Nat) (w : World) (x : OL) (hp : Lrd n0 w x.vp .i64 x.o.ps) (hr : Lrd n0 w x.vr .u64 (x.o.rs.map Int.ofNat)) (hlen : 2 + x.o.ps.length + x.o.rs.length ≤ 1000000000000) :
    Calls Tryz.prog 16 #[.agg x.cells] w fun e w' => e = .returned (.int .i64 (2 + x.o.ps.length + x.o.rs.length : Nat)) ∧ Below w.heap.size w w' := by
  obtain ⟨pa, pc, ep, -, -⟩ := hp
  obtain ⟨ra, rc, er, -, -⟩ := hr
  rw [List.length_map] at er
  show Calls Tryz.prog 16 #[.agg (ocs x.o.ser x.o.kind x.o.site x.vp x.vr)] w _
  rw [ep, er]
  have h1 := heap_alloc_new w (.cells (ocs x.o.ser x.o.kind x.o.site (.slice pa x.o.ps.length pc) (.slice ra x.o.rs.length rc)) 39 (0, 0))
  have b1 : Below w.heap.size w (w.alloc (.cells (ocs x.o.ser x.o.kind x.o.site (.slice pa x.o.ps.length pc) (.slice ra x.o.rs.length rc)) 39)) := Below.alloc (Below.refl _ _) (Nat.le_refl _) _
  have HB : Below w.heap.size w (w.alloc (.cells (ocs x.o.ser x.o.kind x.o.site (.slice pa x.o.ps.length pc) (.slice ra x.o.rs.length rc)) 39)) := b1
  have c3 := Kg.heap_cell h1 3
  have c4 := Kg.heap_cell h1 4
  clear h1 b1
  go_enter Tryz.func16, Tryz.ntmps16
  go_wp2
  go_ret
  refine ⟨?_, HB⟩
  show Ending.returned (.int .i64 _) = _
  congr 2
theorem refused17_any (n0 : Nat) (w : World) (vo vs vh vr vq : Value) (os : List OL) (ts : List (Value × List (Value × List Int))) (g : Im.Gr) (hg : Grd n0 w vo vs vh vr vq os ts g) (hn : n0 ≤ w.heap.size) (hl : Gln os ts g) :
    Calls Tryz.prog 10 #[.agg (gcs vo vs vh vr vq g.next)] w fun e w' => ∃ r : Bool, e = .returned (.bool r) ∧ Below w.heap.size w w' ∧ (r = true ↔ ¬ MB g) := by
  have l1 : Below w.heap.size w (w.alloc (.cells (gcs vo vs vh vr vq g.next) 27)) := Below.alloc (Below.refl _ _) (Nat.le_refl _) _
  have hx := heap_alloc_new w (.cells (gcs vo vs vh vr vq g.next) 27 (0, 0))
  obtain ⟨oa, oc, eo, -⟩ := id hg.ob
  subst eo
  generalize hW : w.alloc (.cells (gcs (.slice oa os.length oc) vs vh vr vq g.next) 27) = W at *
  have HL1 : Hid (Below w.heap.size w W) := l1
  have q := rCheck_any n0 W _ vs vh vr vq os ts g (hg.below (l1.mono hn)) (Nat.le_trans hn l1.size) hl
  have y0 : W.cell? ⟨w.heap.size, 0, none⟩ = some (.slice oa os.length oc) := Kg.heap_cell hx 0
  have y1 : W.cell? ⟨w.heap.size, 1, none⟩ = some vs := Kg.heap_cell hx 1
  have y2 : W.cell? ⟨w.heap.size, 2, none⟩ = some vh := Kg.heap_cell hx 2
  have y3 : W.cell? ⟨w.heap.size, 3, none⟩ = some vr := Kg.heap_cell hx 3
  have y4 : W.cell? ⟨w.heap.size, 4, none⟩ = some vq := Kg.heap_cell hx 4
  have y5 : W.cell? ⟨w.heap.size, 5, none⟩ = some (.int .u64 (g.next : Int)) := Kg.heap_cell hx 5
  clear hg hx l1
  go_enter Tryz.func10, Tryz.ntmps10
  go_wp2_with fail
  refine q.mono ?_
  rintro e w1 ⟨r, rfl, b1, hr⟩
  have HB : Hid (Below w.heap.size w w1) := HL1.out.trans (b1.mono HL1.out.size)
  clear q b1 y0 y1 y2 y3 y4 y5
  rcases hr with ⟨rfl, hm⟩ | ⟨rfl, hm⟩
  · have HM : Hid (MB g) := hm
    clear hm
    go_wp2
    go_ret
    exact ⟨false, rfl, HB.out, by simp [HM.out]⟩
  · have HM : Hid (¬ MB g) := hm
    clear hm
    go_wp2
    go_ret
    exact ⟨true, rfl, HB.out, by simp [HM.out]⟩
theorem sum17L_any (n0 : Nat) (w : World) (vo vs vh vr vq : Value) (os : List OL) (ts : List (Value × List (Value × List Int))) (g : Im.Gr) (hg : Grd n0 w vo vs vh vr vq os ts g) (hn : n0 ≤ w.heap.size) (hw : ∀ x, wd17 g x ≤ 2000000) (hol : os.length ≤ 2000000) (ib : Nat) (ins : Nat → Bool) (hi : Fb w ib (os.length + 1) ins) :
    Calls Tryz.prog 17 #[.agg (gcs vo vs vh vr vq g.next), .slice (some ⟨ib, 0, none⟩) (os.length + 1) (os.length + 1)] w fun e w' => e = .returned (.int .i64 (smb (wd17 g) ins os.length : Nat)) ∧ Below w.heap.size w w' := by
  have HO : Hid (∀ (i : Nat) x, os[i]? = some x → wd17 g (i + 1) = 2 + x.o.ps.length + x.o.rs.length) := fun i x hx => by
    unfold wd17
    rw [if_neg (by omega), Nat.add_sub_cancel, hg.eo, List.getElem?_map, hx]
    rfl
  have l1 : Below w.heap.size w (w.alloc (.cells (gcs vo vs vh vr vq g.next) 27)) := Below.alloc (Below.refl _ _) (Nat.le_refl _) _
  have hx := heap_alloc_new w (.cells (gcs vo vs vh vr vq g.next) 27 (0, 0))
  obtain ⟨oa, oc, eo, -⟩ := id hg.ob
  subst eo
  generalize hW : w.alloc (.cells (gcs (.slice oa os.length oc) vs vh vr vq g.next) 27) = W at *
  have HL1 : Hid (Below w.heap.size w W) := l1
  have HXB : Hid (∀ w', Below W.heap.size W w' → w'.heap[w.heap.size]? = some (.cells (gcs (.slice oa os.length oc) vs vh vr vq g.next) 27 (0, 0)) ∧ Below w.heap.size w w' ∧ Grd n0 w' (.slice oa os.length oc) vs vh vr vq os ts g ∧ Fb w' ib (os.length + 1) ins) := fun w' b' => ⟨(b'.block _ (Kg.heap_lt hx)).trans hx, l1.trans (b'.mono l1.size), hg.below ((l1.trans (b'.mono l1.size)).mono hn), hi.below (l1.trans (b'.mono l1.size))⟩
  have HWc : Hid (∀ x, wd17 g x ≤ 2000000) := hw
  clear hg hx l1 hi hw
  obtain ⟨m, hmm⟩ : ∃ m, m = os.length + 1 := ⟨_, rfl⟩
  have Hmm : Hid (m = os.length + 1) := hmm
  have hm2 : m ≤ 2000001 := by omega
  rw [← hmm] at HXB ⊢
  clear hmm
  go_enter Tryz.func17, Tryz.ntmps17
  go_wp2
  go_loopw [5, 6] (fun v5 v6 wr => ∃ k : Nat, v6 = .int .i64 ((k + 1 : Nat) : Int) ∧ k + 1 ≤ m ∧ v5 = .int .i64 (smb (wd17 g) ins k : Nat) ∧ Hid (Below W.heap.size W wr)) (fun _ v6 _ => m - (intOf v6).toNat)
  case atStart => exact ⟨0, rfl, by have := Hmm.out; omega, rfl, Below.refl _ _⟩
  case round =>
    obtain ⟨k, rfl, hk, rfl, R1⟩ := hrel
    by_cases hkl : k + 1 < m
    · have hki : ((k + 1 : Nat) : Int) < (m : Int) := by omega
      obtain ⟨hgb, -, gr, fb⟩ := HXB.out wr R1.out
      have cb := fb.cell hkl
      have hsb := smb_le (ins := ins) HWc.out k
      have hsB : smb (wd17 g) ins k ≤ 5000000000000 := by
        have : k * 2000000 ≤ 2000001 * 2000000 := Nat.mul_le_mul_right _ (by omega)
        omega
      have hkx : ((k + 1 : Nat) : Int) - 1 = (k : Int) := by omega
      have hko : k < os.length := by have := Hmm.out; omega
      have hkoI : (k : Int) < (os.length : Int) := by omega
      obtain ⟨bi, hbi⟩ : ∃ bi, bi = ins (k + 1) := ⟨_, rfl⟩
      rw [← hbi] at cb
      have HBI : Hid (bi = ins (k + 1)) := hbi
      clear hbi
      cases bi with
      | false =>
        have HN : Hid (smb (wd17 g) ins (k + 1) = smb (wd17 g) ins k) := by
          show smb (wd17 g) ins k + _ = _
          rw [← HBI.out]
          rfl
        clear hgb gr fb
        go_wp2
        go_roundw
        case rel => exact ⟨k + 1, by go_num, by omega, by rw [HN.out], R1⟩
        case measure => simp [intOf]; omega
      | true =>
        have hz : os[k]? = some (os[k]'hko) := List.getElem?_eq_getElem hko
        generalize os[k]'hko = o at hz
        have HN : Hid (smb (wd17 g) ins (k + 1) = smb (wd17 g) ins k + (2 + o.o.ps.length + o.o.rs.length)) := by
          show smb (wd17 g) ins k + _ = _
          rw [← HBI.out, ← HO.out k o hz]
          rfl
        have hwo : 2 + o.o.ps.length + o.o.rs.length ≤ 2000000 := by rw [← HO.out k o hz]; exact HWc.out _
        have y0 : wr.cell? ⟨w.heap.size, 0, none⟩ = some (.slice oa os.length oc) := Kg.heap_cell hgb 0
        obtain ⟨oa', oc', eo, hob⟩ := gr.ob
        simp only [Value.slice.injEq] at eo
        obtain ⟨rfl, -, rfl⟩ := eo
        obtain ⟨lp, lr, qo, off, rfl, hqo, hco⟩ := hob k o hz
        have c0 := (hco 0 (by omega)).trans (show _ = some (Value.int .u64 (o.o.ser : Int)) from rfl)
        rw [Nat.add_zero] at c0
        have c1 := (hco 1 (by omega)).trans (show _ = some (Value.int .i64 o.o.kind) from rfl)
        have c2 := (hco 2 (by omega)).trans (show _ = some (Value.int .i64 o.o.site) from rfl)
        have c3 := (hco 3 (by omega)).trans (show _ = some o.vp from rfl)
        have c4 := (hco 4 (by omega)).trans (show _ = some o.vr from rfl)
        have q := words17_any n0 wr o lp lr (by omega)
        obtain ⟨pa, pc, ep, -, -⟩ := id lp
        obtain ⟨ra, rc, er, -, -⟩ := id lr
        rw [List.length_map] at er
        have ec : o.cells = ocs o.o.ser o.o.kind o.o.site (.slice pa o.o.ps.length pc) (.slice ra o.o.rs.length rc) := by
          show ocs _ _ _ o.vp o.vr = _
          rw [ep, er]
        rw [ec] at q
        rw [ep] at c3
        rw [er] at c4
        clear hgb gr fb hob hco hz lp lr ep er ec
        generalize smb (wd17 g) ins k = sk at *
        go_wp2_with fail
        refine q.mono ?_
        rintro e w2 ⟨rfl, b2⟩
        have R2 : Hid (Below W.heap.size W w2) := R1.out.trans (b2.mono R1.out.size)
        clear q b2 c0 c1 c2 c3 c4 y0 R1
        go_wp2
        go_roundw
        case rel => exact ⟨k + 1, by go_num, by omega, by rw [HN.out]; go_num, R2⟩
        case measure => simp [intOf]; omega
    · have hki : ¬ ((k + 1 : Nat) : Int) < (m : Int) := by omega
      have e9 : k = os.length := by have := Hmm.out; omega
      subst e9
      have HB : Hid (Below w.heap.size w wr) := (HXB.out wr R1.out).2.1
      go_wp2
      go_ret
      exact ⟨rfl, HB.out⟩
end Go.Proofs.YtkekaifiahjljaaGreatDoor
namespace Go.Proofs
open Go.Shelf
def Tryz.delFA_ren : Go.Shelf.Ren := ⟨fun | 10 => 103 | 6 => 161 | n => n, fun | 22 => 24 | 23 => 3 | 25 => 100 | 3 => 3 | 4 => 4 | 0 => 0 | n => n, fun | n => n⟩
theorem Tryz.delFA : Go.Proofs.SlLaysH.n10 Tryz.prog Tryz.delFA_ren := {
  mixed := by kernel_rfl
  f6 := ⟨Tryz.f161.name, by decide, Tryz.func161.trans (congrArg some (by kernel_rfl))⟩
  f10 := ⟨Tryz.f103.name, by decide, Tryz.func103.trans (congrArg some (by kernel_rfl))⟩
  t0 := Tryz.underlying0
  a0 := Tryz.isAgg0
  z0 := Tryz.sizeOf0
  v0 := Tryz.zeroValue0
  t3 := Tryz.underlying3
  a3 := Tryz.isAgg3
  z3 := Tryz.sizeOf3
  v3 := Tryz.zeroValue3
  t4 := Tryz.underlying4
  a4 := Tryz.isAgg4
  z4 := Tryz.sizeOf4
  v4 := Tryz.zeroValue4
  t22 := Tryz.underlying24
  a22 := Tryz.isAgg24
  z22 := Tryz.sizeOf24
  v22 := Tryz.zeroValue24
  a23 := Tryz.isAgg3
  z23 := Tryz.sizeOf3
  t25 := Tryz.underlying100
  a25 := Tryz.isAgg100
  z25 := Tryz.sizeOf100
  v25 := Tryz.zeroValue100 }
def Tryz.revA_ren : Go.Shelf.Ren := ⟨fun | 35 => 101 | n => n, fun | 22 => 24 | 23 => 3 | 3 => 3 | 4 => 4 | 0 => 0 | n => n, fun | n => n⟩
theorem Tryz.revA : Go.Proofs.SlLaysE.n35 Tryz.prog Tryz.revA_ren := {
  mixed := by kernel_rfl
  f35 := ⟨Tryz.f101.name, by decide, Tryz.func101.trans (congrArg some (by kernel_rfl))⟩
  t0 := Tryz.underlying0
  a0 := Tryz.isAgg0
  z0 := Tryz.sizeOf0
  v0 := Tryz.zeroValue0
  t3 := Tryz.underlying3
  a3 := Tryz.isAgg3
  z3 := Tryz.sizeOf3
  v3 := Tryz.zeroValue3
  t4 := Tryz.underlying4
  a4 := Tryz.isAgg4
  z4 := Tryz.sizeOf4
  v4 := Tryz.zeroValue4
  t22 := Tryz.underlying24
  a22 := Tryz.isAgg24
  z22 := Tryz.sizeOf24
  v22 := Tryz.zeroValue24
  a23 := Tryz.isAgg3
  z23 := Tryz.sizeOf3 }
def Tryz.sortA_ren : Go.Shelf.Ren := ⟨fun | 5 => 77 | 8 => 125 | 7 => 124 | 19 => 175 | 20 => 176 | 10 => 166 | 11 => 167 | 12 => 168 | 13 => 169 | 14 => 170 | 15 => 171 | 16 => 172 | 17 => 173 | 18 => 174 | 30 => 189 | 31 => 190 | 32 => 191 | 33 => 192 | 34 => 193 | 35 => 194 | 40 => 200 | n => n, fun | 23 => 24 | 25 => 3 | 3 => 3 | 32 => 167 | 22 => 24 | 0 => 0 | 44 => 188 | 46 => 25 | 4 => 4 | 36 => 183 | 35 => 182 | 41 => 88 | 5 => 5 | 9 => 9 | 53 => 201 | 57 => 205 | 63 => 210 | 64 => 211 | n => n, fun | n => n⟩
theorem Tryz.sortA : Go.Proofs.SlLaysM.n5 Tryz.prog Tryz.sortA_ren := {
  mixed := by kernel_rfl
  f5 := ⟨Tryz.f77.name, by decide, Tryz.func77.trans (congrArg some (by kernel_rfl))⟩
  f7 := ⟨Tryz.f124.name, by decide, Tryz.func124.trans (congrArg some (by kernel_rfl))⟩
  f8 := Tryz.func125.trans (congrArg some (by kernel_rfl))
  f10 := ⟨Tryz.f166.name, by decide, Tryz.func166.trans (congrArg some (by kernel_rfl))⟩
  f11 := ⟨Tryz.f167.name, by decide, Tryz.func167.trans (congrArg some (by kernel_rfl))⟩
  f12 := ⟨Tryz.f168.name, by decide, Tryz.func168.trans (congrArg some (by kernel_rfl))⟩
  f13 := ⟨Tryz.f169.name, by decide, Tryz.func169.trans (congrArg some (by kernel_rfl))⟩
  f14 := ⟨Tryz.f170.name, by decide, Tryz.func170.trans (congrArg some (by kernel_rfl))⟩
  f15 := ⟨Tryz.f171.name, by decide, Tryz.func171.trans (congrArg some (by kernel_rfl))⟩
  f16 := ⟨Tryz.f172.name, by decide, Tryz.func172.trans (congrArg some (by kernel_rfl))⟩
  f17 := ⟨Tryz.f173.name, by decide, Tryz.func173.trans (congrArg some (by kernel_rfl))⟩
  f18 := ⟨Tryz.f174.name, by decide, Tryz.func174.trans (congrArg some (by kernel_rfl))⟩
  f19 := Tryz.func175.trans (congrArg some (by kernel_rfl))
  f20 := Tryz.func176.trans (congrArg some (by kernel_rfl))
  f30 := ⟨Tryz.f189.name, by decide, Tryz.func189.trans (congrArg some (by kernel_rfl))⟩
  f31 := Tryz.func190.trans (congrArg some (by kernel_rfl))
  f32 := Tryz.func191.trans (congrArg some (by kernel_rfl))
  f33 := ⟨Tryz.f192.name, by decide, Tryz.func192.trans (congrArg some (by kernel_rfl))⟩
  f34 := ⟨Tryz.f193.name, by decide, Tryz.func193.trans (congrArg some (by kernel_rfl))⟩
  f35 := ⟨Tryz.f194.name, by decide, Tryz.func194.trans (congrArg some (by kernel_rfl))⟩
  f40 := ⟨Tryz.f200.name, by decide, Tryz.func200.trans (congrArg some (by kernel_rfl))⟩
  t0 := Tryz.underlying0
  a0 := Tryz.isAgg0
  z0 := Tryz.sizeOf0
  v0 := Tryz.zeroValue0
  t3 := Tryz.underlying3
  a3 := Tryz.isAgg3
  z3 := Tryz.sizeOf3
  v3 := Tryz.zeroValue3
  t4 := Tryz.underlying4
  a4 := Tryz.isAgg4
  z4 := Tryz.sizeOf4
  v4 := Tryz.zeroValue4
  t5 := Tryz.underlying5
  a5 := Tryz.isAgg5
  z5 := Tryz.sizeOf5
  v5 := Tryz.zeroValue5
  t9 := Tryz.underlying9
  a9 := Tryz.isAgg9
  z9 := Tryz.sizeOf9
  v9 := Tryz.zeroValue9
  t22 := Tryz.underlying24
  a22 := Tryz.isAgg24
  z22 := Tryz.sizeOf24
  v22 := Tryz.zeroValue24
  t23 := Tryz.underlying24
  a23 := Tryz.isAgg24
  z23 := Tryz.sizeOf24
  v23 := Tryz.zeroValue24
  t25 := Tryz.underlying3
  a25 := Tryz.isAgg3
  z25 := Tryz.sizeOf3
  v25 := Tryz.zeroValue3
  t32 := Tryz.underlying167
  a32 := Tryz.isAgg167
  z32 := Tryz.sizeOf167
  v32 := Tryz.zeroValue167
  t35 := Tryz.underlying182
  a35 := Tryz.isAgg182
  z35 := Tryz.sizeOf182
  v35 := Tryz.zeroValue182
  t36 := Tryz.underlying183
  a36 := Tryz.isAgg183
  z36 := Tryz.sizeOf183
  v36 := Tryz.zeroValue183
  t41 := Tryz.underlying88
  a41 := Tryz.isAgg88
  z41 := Tryz.sizeOf88
  v41 := Tryz.zeroValue88
  t44 := Tryz.underlying188
  a44 := Tryz.isAgg188
  z44 := Tryz.sizeOf188
  v44 := Tryz.zeroValue188
  t46 := Tryz.underlying25
  a46 := Tryz.isAgg25
  z46 := Tryz.sizeOf25
  v46 := Tryz.zeroValue25
  t53 := Tryz.underlying201
  a53 := Tryz.isAgg201
  z53 := Tryz.sizeOf201
  v53 := Tryz.zeroValue201
  t57 := Tryz.underlying205
  a57 := Tryz.isAgg205
  z57 := Tryz.sizeOf205
  v57 := Tryz.zeroValue205
  t63 := Tryz.underlying210
  a63 := Tryz.isAgg210
  z63 := Tryz.sizeOf210
  v63 := Tryz.zeroValue210
  t64 := Tryz.underlying211
  a64 := Tryz.isAgg211
  z64 := Tryz.sizeOf211
  v64 := Tryz.zeroValue211 }
def Tryz.laysNm223_ren : Go.Shelf.Ren := ⟨fun | 23 => 159 | n => n, fun | 22 => 24 | 3 => 3 | 4 => 4 | 0 => 0 | n => n, fun | n => n⟩
theorem Tryz.laysNm223 : Go.Proofs.Lays2.n23 Tryz.prog Tryz.laysNm223_ren := {
  mixed := by kernel_rfl
  f23 := Tryz.func159.trans (congrArg some (by kernel_rfl))
  t0 := Tryz.underlying0
  a0 := Tryz.isAgg0
  z0 := Tryz.sizeOf0
  v0 := Tryz.zeroValue0
  t3 := Tryz.underlying3
  a3 := Tryz.isAgg3
  z3 := Tryz.sizeOf3
  v3 := Tryz.zeroValue3
  t4 := Tryz.underlying4
  a4 := Tryz.isAgg4
  z4 := Tryz.sizeOf4
  v4 := Tryz.zeroValue4
  t22 := Tryz.underlying24
  a22 := Tryz.isAgg24
  z22 := Tryz.sizeOf24
  v22 := Tryz.zeroValue24
  i3 := by kernel_rfl }
open Go.RowKit Go.Lib Go.Sort in
theorem Tryz.slices_Delete_int (blk off cap i j : Nat) (zs : List Int) (w : World) (hH : Holds (Value.int .i64) w blk off zs.toArray) (hcap : zs.length ≤ cap) (hm : cap ≤ 9223372036854775807) (hij : i ≤ j) (hj : j ≤ zs.length) :
    Calls Tryz.prog 159 #[.slice (some ⟨blk, off, none⟩) zs.length cap, .int .i64 i, .int .i64 j] w fun e w' => e = .returned (.slice (some ⟨blk, off, none⟩) (zs.length - (j - i)) cap) ∧ ∃ q, w' = putRow (Value.int .i64) (Sort.ahead w q) blk off (zs.take i ++ zs.drop j ++ List.replicate (j - i) 0).toArray := Any.slices_Delete_int Tryz.laysNm223 blk off cap i j zs w hH hcap hm hij hj
end Go.Proofs
namespace Go.Proofs.YtkekaifiahjljaaGreatDoor.Kg
open Go.RowKit
theorem own_slice {w : World} {base n e size : Nat} {v : Value} {xs : List Value} (h : w.ownsRow base e size v n xs) : ∃ a cap, v = .slice a n cap := by
  rcases h.2 with ⟨rfl, rfl⟩ | ⟨g, cap, cur, rfl, _⟩
  · exact ⟨_, _, rfl⟩
  · exact ⟨_, _, rfl⟩
theorem full_any (h m : Int) (w : World) :
    Calls Tryz.prog 100 #[.int .i64 h, .int .i64 m] w fun e w' => e = .returned (.bool (decide (0 < m ∧ m ≤ h))) ∧ w' = w := by
  by_cases h1 : 0 < m
  · by_cases h2 : m ≤ h
    · go_enter Tryz.func100, Tryz.ntmps100
      go_wp2
      go_ret
      simp [h1, h2]
    · go_enter Tryz.func100, Tryz.ntmps100
      go_wp2
      go_ret
      simp [h2]
  · go_enter Tryz.func100, Tryz.ntmps100
    go_wp2
    go_ret
    simp
    omega
end Go.Proofs.YtkekaifiahjljaaGreatDoor.Kg
namespace Go.Proofs.YtkekaifiahjljaaGreatDoor
open Go.RowKit Go.Shelf Go.Lib Go.Sort Go.Proofs.YtkekaifiahjljaaGreatDoor.Lp
theorem frd_two {n0 : Nat} {w : World} {v1 v2 : Value} {l1 l2 : List Int} (h1 : Lrd n0 w v1 .i64 l1) (h2 : Lrd n0 w v2 .i64 l2) (hn : n0 ≤ w.heap.size) :
    Frd (w.heap.size + 1) (w.alloc (.cells #[v1, v2] 24)) (.slice (some ⟨w.heap.size, 0, none⟩) 2 2) [(v1, l1), (v2, l2)] := by
  have hb : Below n0 w (w.alloc (.cells #[v1, v2] 24)) := Below.alloc (Below.refl _ _) hn _
  have hy := fun j => cell_of_row _ _ j _ _ _ (heap_alloc_new w (.cells #[v1, v2] 24 (0, 0)))
  refine ⟨_, _, rfl, fun i x hx => ?_⟩
  match i, hx with
  | 0, hx => cases hx; exact ⟨(h1.below hb).mono (by omega), _, _, rfl, Nat.lt_succ_self _, hy 0⟩
  | 1, hx => cases hx; exact ⟨(h2.below hb).mono (by omega), _, _, rfl, Nat.lt_succ_self _, hy 1⟩
  | i + 2, hx => cases hx
theorem below1_any (x : Int) (w : World) : Calls Tryz.prog 104 #[.int .i64 x] w fun e w' => e = .returned (.bool (decide (x < 1))) ∧ ∃ q, w' = w.drewN q := by
  go_enter Tryz.func104, Tryz.ntmps104
  go_wp2
  go_ret
  exact ⟨rfl, 0, rfl⟩
theorem below1_enters : ∀ args w, (callFunc 104 args).run Tryz.prog w = .ok (.enter 104 args) w := enters_of Tryz.func104 (by kernel_rfl) rfl
theorem touch_putRow17 {enc : Int → Value} {w : World} {g q : Nat} {d : Array Int} : Kg.Touch [g] w (Sort.putRow enc (Sort.ahead w q) g 0 d) :=
  ⟨rfl, rfl, rfl, by simp [Sort.putRow, Sort.mapBlock, Sort.ahead], fun k _ hn => by
    have : g ≠ k := fun e => hn (by simp [e])
    simp [Sort.putRow, Sort.mapBlock, Sort.ahead, Array.getElem?_modify, this]⟩
theorem delF_any (base : Nat) (v : Value) (l : List Int) (w : World) (h : Il w base v l) (hl : l.length ≤ 1000000000000) :
    Calls Tryz.prog 103 #[v, .func (.func 104) #[] #[]] w fun e w' => ∃ v', e = .returned v' ∧ Il w' base v' (l.filter (fun z => !decide (z < 1))) ∧ Below base w w' := by
  rcases h.2 with ⟨rfl, h0⟩ | ⟨g, cap, cur, rfl, hb, hg, hn, hm, hcs, htk⟩
  · obtain rfl : l = [] := List.eq_nil_of_length_eq_zero h0
    have q := AnyE.slices_IndexFunc_empty (P := Tryz.prog) (ρ := Tryz.delFA_ren) { Tryz.delFA with } none 0 (.func (.func 104) #[] #[]) w
    have q : Calls Tryz.prog 161 #[.slice none 0 0, .func (.func 104) #[] #[]] w _ := q
    clear h
    go_enter Tryz.func103, Tryz.ntmps103
    go_wp2_with fail
    refine q.mono ?_
    rintro e w1 ⟨rfl, rfl⟩
    go_wp2
    go_ret
    exact ⟨_, rfl, World.ownsRow_nil _ _ _ _, Below.refl _ _⟩
  · obtain ⟨g', cap', hv, hb', hlt, hn', hm', _, hH⟩ := Lib.holds_of_ownsRow h (by simp)
    simp only [Value.slice.injEq, Option.some.injEq, Addr.mk.injEq, true_and, and_true] at hv
    obtain ⟨rfl, rfl⟩ := hv
    have q := AnyE.slices_DeleteFunc (P := Tryz.prog) (ρ := Tryz.delFA_ren) Tryz.delFA (Value.int .i64) (fun _ => rfl) (fun z => decide (z < 1)) 104 #[] below1_enters 0 Tryz.zeroValue3 g 0 cap l.toArray w (fun W x _ => below1_any x W) (fun n os dk x _ => below1_any x _) hH (by simp; omega) (by simpa using hn)
    simp only [List.size_toArray] at q
    have hfl : (l.filter (fun z => !decide (z < 1))).length ≤ l.length := List.length_filter_le _ _
    refine Calls.mono (show Calls Tryz.prog 103 _ _ _ from q) ?_
    rintro e w' ⟨rfl, q', rfl⟩
    have h2 := Lib.ownsRow_putRow (q := q') (k := (l.filter (fun z => !decide (z < 1))).length) (ys := l.filter (fun z => !decide (z < 1)) ++ List.replicate (l.length - (l.filter (fun z => !decide (z < 1))).length) 0) h (by simp; omega) hfl
    rw [List.take_left' rfl] at h2
    exact ⟨_, rfl, h2, touch_putRow17.below (Nat.le_trans hb (Nat.le_of_lt hlt)) (fun k hk => by rw [List.mem_singleton] at hk; rw [hk]; exact hb)⟩
theorem rootsOf_any (n0 : Nat) (w : World) (vo vs vh vr vq : Value) (os : List OL) (ts : List (Value × List (Value × List Int))) (g : Im.Gr) (hg : Grd n0 w vo vs vh vr vq os ts g) (hn : n0 ≤ w.heap.size) (hs : Sln ts) (hlen : (g.hs ++ g.qu).length + (slotsF g.slots).length ≤ 1000000000) :
    Calls Tryz.prog 57 #[.agg (gcs vo vs vh vr vq g.next)] w fun e w' => ∃ v, e = .returned v ∧ Il w' w.heap.size v (rw17 g 0) ∧ Below w.heap.size w w' := by
  obtain ⟨i0, hi0, hj0, hj1, hj2⟩ := info_parts Kg.Tryz.infoInt
  have HI : Hid (Tryz.prog.info? 3 = some i0 ∧ i0.zero = some (.int .i64 0) ∧ i0.size = 1 ∧ i0.bytes = 8) := ⟨hi0, hj0, hj1, hj2⟩
  clear hi0 hj0 hj1 hj2
  have l1 : Below w.heap.size w (w.alloc (.cells (gcs vo vs vh vr vq g.next) 27)) := Below.alloc (Below.refl _ _) (Nat.le_refl _) _
  have hy := fun j => cell_of_row _ _ j _ _ _ (heap_alloc_new w (.cells (gcs vo vs vh vr vq g.next) 27 (0, 0)))
  have y1 : (w.alloc (.cells (gcs vo vs vh vr vq g.next) 27)).cell? ⟨w.heap.size, 1, none⟩ = some vs := hy 1
  have y2 : (w.alloc (.cells (gcs vo vs vh vr vq g.next) 27)).cell? ⟨w.heap.size, 2, none⟩ = some vh := hy 2
  have y4 : (w.alloc (.cells (gcs vo vs vh vr vq g.next) 27)).cell? ⟨w.heap.size, 4, none⟩ = some vq := hy 4
  have hg1 := hg.below (l1.mono hn)
  have h3 := frd_two hg1.hs hg1.qu (Nat.le_trans hn l1.size)
  have Hg : Hid (Grd n0 w vo vs vh vr vq os ts g) := hg
  have Hs : Hid (Sln ts) := hs
  have hx := hg.sl
  obtain ⟨b, bcap, rfl, -⟩ := hx
  have hx := hg.hs
  obtain ⟨ah, hcap, rfl, -⟩ := hx
  have hx := hg.qu
  obtain ⟨aq, qcap, rfl, -⟩ := hx
  have htl := hs.t
  have Hes : Hid (g.slots = ts.map (fun t => t.2.map (·.2))) := hg.es
  have Hel : Hid ((g.hs ++ g.qu).length + (slotsF g.slots).length ≤ 1000000000) := hlen
  clear hg hy hs hg1 hlen
  generalize hw1 : w.alloc (.cells (gcs vo (.slice b ts.length bcap) (.slice ah g.hs.length hcap) vr (.slice aq g.qu.length qcap) g.next) 27) = w1 at *
  have e1 : w1.heap.size = w.heap.size + 1 := by rw [← hw1]; simp
  have Ht : Hid (fsum ([(Value.slice ah g.hs.length hcap, g.hs), (Value.slice aq g.qu.length qcap, g.qu)].map (·.2)) ≤ 1000000000000) := by
    have := Hel.out
    simp only [List.length_append] at this
    simp [fsum]
    show _ ≤ _
    omega
  have hcc := slConcat_any (w1.heap.size + 1) _ _ _ h3 (by simp) (by simp) Ht.out
  have l2 : Below w1.heap.size w1 (w1.alloc (.cells #[.slice ah g.hs.length hcap, .slice aq g.qu.length qcap] 24)) := Below.alloc (Below.refl _ _) (Nat.le_refl _) _
  clear h3 Ht
  go_enter Tryz.func57, Tryz.ntmps57
  rw [e1] at hcc
  go_wp2_with fail
  refine hcc.mono ?_
  rintro e w2 ⟨v2, rfl, b2, o2⟩
  obtain ⟨a2, c2, hv2⟩ := own_slI o2
  subst hv2
  have B2 : Below w1.heap.size w1 w2 := l2.trans (b2.mono l2.size)
  have Hb2 : Hid (Below w1.heap.size w1 w2) := B2
  have ef : flat [(Value.slice ah g.hs.length hcap, g.hs), (Value.slice aq g.qu.length qcap, g.qu)] = g.hs ++ g.qu := by simp [flat]
  rw [ef] at o2
  rw [ef]
  have Ho2 : Hid (w2.ownsRow w1.heap.size 3 1 (.slice a2 (g.hs ++ g.qu).length c2) (g.hs ++ g.qu).length (Kg.ints (g.hs ++ g.qu))) := Kg.row_base o2 (by simp)
  have z1 : w2.cell? ⟨w.heap.size, 1, none⟩ = some (.slice b ts.length bcap) := (B2.cell (p := ⟨w.heap.size, 1, none⟩) (by rw [e1]; exact Nat.lt_succ_self _)).trans y1
  clear hcc b2 o2 y1 y2 y4 ef B2
  generalize hE0 : g.hs ++ g.qu = E0 at *
  have HE0 : Hid (g.hs ++ g.qu = E0) := hE0
  clear hE0
  go_wp2
  go_loopw [3, 15] (fun v3 v17 wr => ∃ k : Nat, k ≤ ts.length ∧ v17 = .int .i64 k ∧ Hid (wr.ownsRow w1.heap.size 3 1 v3 (en E0 (g.slots.take k)).length (Kg.ints (en E0 (g.slots.take k)))) ∧ Hid (Below w1.heap.size w1 wr)) (fun _ v17 _ => ts.length - (intOf v17).toNat)
  case atStart => exact ⟨0, Nat.zero_le _, rfl, by have h9 : en E0 (g.slots.take 0) = E0 := (by simp [en, slotsF]); show w2.ownsRow _ _ _ _ _ _; rw [h9]; exact Ho2.out, Hb2⟩
  case round =>
    obtain ⟨k, hk, rfl, Hr, Hb⟩ := hrel
    obtain ⟨a3, c3, hv3⟩ := own_slI Hr.out
    subst hv3
    have BW : Hid (Below w.heap.size w wr) := l1.trans (Hb.out.mono l1.size)
    by_cases hkl : k < ts.length
    · have hki : (k : Int) < (ts.length : Int) := by omega
      have hz : ts[k]? = some (ts[k]'hkl) := List.getElem?_eq_getElem hkl
      generalize ts[k]'hkl = x at hz
      obtain ⟨a', cap', ea, hob⟩ := (Hg.out.below (BW.out.mono hn)).sl
      cases ea
      obtain ⟨hp, q, off, rfl, hq, hc⟩ := hob k x hz
      have Hz : Hid (g.slots[k]? = some (x.2.map (·.2))) := by show _ = _; rw [Hes.out, List.getElem?_map, hz]; rfl
      have He : Hid (en E0 (g.slots.take (k + 1)) = (en E0 (g.slots.take k)) ++ flat x.2) := by show _ = _; rw [en, slotsF_snoc Hz.out, en, List.append_assoc]; rfl
      have Hle : Hid ((en E0 (g.slots.take k)).length + (flat x.2).length ≤ 1000000000000) := by
        have h1 := slotsF_take g.slots (k + 1)
        have h2 := congrArg List.length He.out
        have h4 := Hel.out
        simp only [en, List.length_append] at h2 h4 ⊢
        show _ ≤ _
        omega
      have hxs := Hs.out.f x (List.mem_of_getElem? hz)
      have hcc := slConcat_any n0 x.1 x.2 wr hp (Nat.le_trans hn BW.out.size) hxs.1 (by rw [← flat_len]; have := Hle.out; omega)
      obtain ⟨ap, cp, ep, -⟩ := hp
      rw [ep] at hc hcc
      clear hob hz ep hxs
      go_wp2_with fail
      refine hcc.mono ?_
      rintro e w5 ⟨v5, rfl, b5, o5⟩
      clear hcc
      obtain ⟨a5, c5, hv5⟩ := own_slI o5
      subst hv5
      have HN : Hid (∀ (j : Nat) u, (Kg.ints (flat x.2))[j]? = some u → ∃ ad, a5 = some ad ∧ w5.cell? (ad.add j) = some u) := lrd_news (Lrd.of_row (Kg.row_base o5 (Nat.zero_le _)))
      have Hr5 : Hid (w5.ownsRow w1.heap.size 3 1 (.slice a3 (en E0 (g.slots.take k)).length c3) (en E0 (g.slots.take k)).length (Kg.ints (en E0 (g.slots.take k)))) := Kg.row_keep2 Hr.out (Kg.Touch.of_below b5 []) (fun _ _ => by simp)
      have Hb5 : Hid (Below w1.heap.size w1 w5) := Hb.out.trans (b5.mono Hb.out.size)
      clear b5 o5 Hr
      go_wp2_with (at_builtin; refine Kg.wpList_append_row rfl _ _ 24 rfl w1.heap.size 3 i0 (.int .i64 0) 8 Tryz.underlying24 HI.out.1 HI.out.2.1 HI.out.2.2.1 HI.out.2.2.2 rfl _ _ _ rfl Hr5.out a5 (flat x.2).length c5 (Kg.ints (flat x.2)) (by simp [Kg.ints]) rfl HN.out (by simp [Kg.ints, Value.oneCell']) (by have := Hle.out; simp only [maxLen]; omega) (by have := Hle.out; omega) Hb5.out.size ?_; intro v' w8 hown' hgrow _ hat _)
      go_roundw
      case rel =>
        refine ⟨k + 1, by omega, by go_num, ?_, ?_⟩
        · show w8.ownsRow _ _ _ _ _ _
          rw [He.out]
          simp only [Kg.ints, List.map_append, List.length_append] at hown' ⊢
          exact hown'
        · have t8 : Kg.Touch (Value.slice a3 (en E0 (g.slots.take k)).length c3).ownBlock.toList w5 w8 := Kg.Touch.grown hgrow (fun y hy => by rw [Option.mem_toList]; exact hy)
          exact Hb5.out.trans (t8.below Hb5.out.size (fun y hy => by rw [Option.mem_toList] at hy; exact (Hr5.out.lt y hy).1))
      case measure => simp [intOf]; omega
    · have hki : ¬ (k : Int) < (ts.length : Int) := by omega
      have e9 : g.slots.take k = g.slots := List.take_of_length_le (by rw [Hes.out, List.length_map]; omega)
      rw [e9] at Hr ⊢
      have HEn : Hid (en E0 g.slots = g.hs ++ g.qu ++ slotsF g.slots) := by show _ = _; rw [en, HE0.out]
      have HEl : Hid ((en E0 g.slots).length ≤ 1000000000000) := by
        have := Hel.out
        show _ ≤ _
        rw [en, List.length_append]
        omega
      have q := delF_any w1.heap.size (.slice a3 (en E0 g.slots).length c3) (en E0 g.slots) wr Hr.out HEl.out
      have HR0 : Hid (rw17 g 0 = (en E0 g.slots).filter (fun z => !decide (z < 1))) := by show _ = _; rw [HEn.out]; rfl
      generalize en E0 g.slots = E at *
      clear e9
      go_wp2_with fail
      refine q.mono ?_
      rintro e w9 ⟨v9, rfl, o9, b9⟩
      rw [← HR0.out] at o9
      have H9 : Hid (Il w9 w1.heap.size v9 (rw17 g 0)) := o9
      have HB9 : Hid (Below w.heap.size w w9) := l1.trans ((Hb.out.trans b9).mono l1.size)
      clear q o9 b9
      go_wp2
      go_ret
      exact ⟨_, rfl, Kg.row_base H9.out l1.size, HB9.out⟩
end Go.Proofs.YtkekaifiahjljaaGreatDoor
