import Derived.Test.YtblbiikfipcbcaaDoorPWa
import Derived.Test.YtblbiikfipcbcaaDoorPIg
import Derived.Deep.RegionHeld3
/-
  Images, the writer: an object.
-/
set_option linter.unusedVariables false
set_option maxRecDepth 20000
namespace Go.Proofs.YtblbiikfipcbcaaDoor
open Go.RowKit Go.Shelf

theorem object1_enters : ∀ args w, (callFunc 90 args).run Tryd.prog w = .ok (.enter 90 args) w := enters_of Tryd.func90 (by kernel_rfl) rfl

theorem object1_any (w : World) (c b o i q off n cap : Nat) (hc : w.cell? ⟨c, 0, none⟩ = some (.pointer (some ⟨b, o, none⟩))) (hb : w.cell? ⟨b, o + 4, none⟩ = some (.slice (some ⟨q, off, none⟩) n cap)) (hi : i < n) (hn : n ≤ 1000000000) :
    Calls Tryd.prog 90 #[.int .i64 (i : Int), .pointer (some ⟨c, 0, none⟩)] w fun e w' => e = .returned (.iface 94 (.agg #[.pointer (some ⟨q, off + i, none⟩)])) ∧ w' = w := by
  have hiI : (i : Int) < (n : Int) := by omega
  go_enter Tryd.func90, Tryd.ntmps90
  go_wp2
  go_ret
  exact ⟨rfl, rfl⟩

/-- An object's raw fields. -/
theorem raws_pt {n0 : Nat} {w : World} {R Q c b o cap c2 G : Nat} {a : Option Addr} {rs : List Nat} (hw : n0 ≤ w.heap.size) (hR : n0 ≤ R) (hQ : n0 ≤ Q) (hcs : c < w.heap.size) (hcR : c ≠ R) (hcQ : c ≠ Q) (hc : w.cell? ⟨c, 0, none⟩ = some (.pointer (some ⟨b, o, none⟩))) (hb : b < n0)
    (hcell : w.cell? ⟨b, o + 4, none⟩ = some (.slice a rs.length cap)) (hv : Lrd n0 w (.slice a rs.length cap) .u64 (rs.map Int.ofNat)) (hlen : rs.length ≤ 1000000000) (hx : ∀ x, x ∈ rs → x < 18446744073709551616) :
    PtC (Im.listE Im.num rs) (.iface 99 (.agg #[.int .i64 (rs.length : Int), .func (.func 90) #[] #[.pointer (some ⟨c, 0, none⟩)], .func (.func G) #[] #[.pointer (some ⟨c2, 0, none⟩)]])) R w Q := by
  have e1 : Im.listE Im.num rs = Im.num (rs.map Im.num).length ++ (rs.map Im.num).flatten := by simp [Im.listE, List.flatMap]
  rw [e1, show (rs.length : Int) = ((rs.map Im.num).length : Int) by simp]
  refine pt_list (by simpa using hlen) object1_enters (fun i l hl w5 Q5 k5 hR5 hQ5s => ?_)
  rw [List.getElem?_map, Option.map_eq_some_iff] at hl
  obtain ⟨x, hxi, rfl⟩ := hl
  have hil := (List.getElem?_eq_some_iff.1 hxi).1
  obtain ⟨bl, hQ5⟩ := k5.low (n0 := n0) hw hR hQ
  obtain ⟨a', cap', e', -, hel⟩ := hv.below bl
  rw [List.length_map] at e'
  cases e'
  obtain ⟨q, off, rfl, hq, hce⟩ := hel i (Int.ofNat x) (by rw [List.getElem?_map, hxi]; rfl)
  refine (object1_any w5 c b o i q off rs.length cap ((k5.cell hcs hcR hcQ).trans hc) ((bl.cell (p := ⟨b, o + 4, none⟩) hb).trans hcell) hil hlen).mono ?_
  rintro e w6 ⟨rfl, rfl⟩
  exact ⟨_, rfl, Below.refl _ _, pt_raw (by have := k5.t.size; omega) (by omega) (by omega) hce (hx x (List.mem_of_getElem? hxi))⟩

/-- The serial of the object ahead. -/
def lastOf (os : List OL) : Nat → Nat
  | 0 => 0
  | k + 1 => ((os[k]?).map (·.o.ser)).getD 0

/-- Five parts in a row. -/
theorem pt_five {w : World} {R Q g : Nat} {v0 v1 v2 v3 v4 : Value} {l0 l1 l2 l3 l4 : List Nat} (hb : g < w.heap.size) (hR : g ≠ R) (hQ : g ≠ Q) (hg : w.heap[g]? = some (.cells #[v0, v1, v2, v3, v4] 67 (0, 0)))
    (p0 : PtC l0 v0 R w Q) (p1 : PtC l1 v1 R w Q) (p2 : PtC l2 v2 R w Q) (p3 : PtC l3 v3 R w Q) (p4 : PtC l4 v4 R w Q) :
    PtC (l0 ++ (l1 ++ (l2 ++ (l3 ++ l4)))) (.iface 101 (.slice (some ⟨g, 0, none⟩) 5 5)) R w Q := by
  have h := pt_group (vs := [v0, v1, v2, v3, v4]) (ls := [l0, l1, l2, l3, l4]) (cap := 5) (g := g) rfl hb hR hQ (by simp) (by simp) (fun i x hx => ?_) (fun i x l hx hl => ?_)
  · simpa using h
  · rw [Kg.heap_cell hg i, ← hx]
    simp
  · match i, hx, hl with
    | 0, hx, hl => simp at hx hl; subst hx hl; exact p0
    | 1, hx, hl => simp at hx hl; subst hx hl; exact p1
    | 2, hx, hl => simp at hx hl; subst hx hl; exact p2
    | 3, hx, hl => simp at hx hl; subst hx hl; exact p3
    | 4, hx, hl => simp at hx hl; subst hx hl; exact p4
    | k + 5, hx, hl => simp at hx

/-- What an object's five parts stand for. -/
theorem obj_pt {n0 : Nat} {w w3 : World} {R Q c5 q po g c2 last cap : Nat} {a : Option Addr} {u : Value} {x : OL} (hR : n0 ≤ R) (hQ : n0 ≤ Q) (hRs : R < w.heap.size) (hQs : Q < w.heap.size) (b3 : Below w.heap.size w w3) (hq : q < n0) (hc : ∀ j, j < 5 → w.cell? ⟨q, po + j, none⟩ = x.cells[j]?)
    (hvr : x.vr = .slice a x.o.rs.length cap) (hlr : Lrd n0 w x.vr .u64 (x.o.rs.map Int.ofNat)) (h5 : w3.cell? ⟨c5, 0, none⟩ = some (.pointer (some ⟨q, po, none⟩))) (h5l : w.heap.size ≤ c5) (h5s : c5 < w3.heap.size) (hgl : w.heap.size ≤ g)
    (hg : w3.heap[g]? = some (.cells #[.iface 96 (.agg #[.pointer (some ⟨q, po, none⟩), .int .u64 (last : Int)]), .iface 89 (.agg #[.pointer (some ⟨q, po + 1, none⟩)]), .iface 89 (.agg #[.pointer (some ⟨q, po + 2, none⟩)]), .iface 99 u, .iface 99 (.agg #[.int .i64 (x.o.rs.length : Int), .func (.func 90) #[] #[.pointer (some ⟨c5, 0, none⟩)], .func (.func 104) #[] #[.pointer (some ⟨c2, 0, none⟩)]])] 67 (0, 0)))
    (hu : PtC (Im.listE Im.num (x.o.ps.map Int.toNat)) (.iface 99 u) R w3 Q) (hle : last ≤ x.o.ser) (hs : x.o.ser < 18446744073709551616) (hk : 0 ≤ x.o.kind ∧ x.o.kind ≤ 9223372036854775807) (ht : 0 ≤ x.o.site ∧ x.o.site ≤ 9223372036854775807) (hr : ∀ z, z ∈ x.o.rs → z < 18446744073709551616) (hrl : x.o.rs.length ≤ 1000000000) :
    PtC (Im.roE (x.o.ser - last, x.o.kind.toNat, x.o.site.toNat, x.o.ps.map Int.toNat, x.o.rs)) (.iface 101 (.slice (some ⟨g, 0, none⟩) 5 5)) R w3 Q := by
  have hs3 := b3.size
  have hc3 : ∀ j, j < 5 → w3.cell? ⟨q, po + j, none⟩ = x.cells[j]? := fun j hj => (b3.cell (p := ⟨q, po + j, none⟩) (by show q < w.heap.size; omega)).trans (hc j hj)
  have k1 : w3.cell? ⟨q, po + 1, none⟩ = some (.int .i64 ((x.o.kind.toNat : Nat) : Int)) := (hc3 1 (by decide)).trans (by rw [Int.toNat_of_nonneg hk.1]; rfl)
  have k2 : w3.cell? ⟨q, po + 2, none⟩ = some (.int .i64 ((x.o.site.toNat : Nat) : Int)) := (hc3 2 (by decide)).trans (by rw [Int.toNat_of_nonneg ht.1]; rfl)
  have k4 : w3.cell? ⟨q, po + 4, none⟩ = some (.slice a x.o.rs.length cap) := (hc3 4 (by decide)).trans (by show some x.vr = _; rw [hvr])
  rw [hvr] at hlr
  exact pt_five (Kg.heap_lt hg) (by omega) (by omega) hg (pt_serial (by omega) (by omega) (by omega) ((hc3 0 (by decide)).trans rfl) hle hs) (pt_number (by omega) (by omega) (by omega) k1 (by show x.o.kind.toNat ≤ _; omega)) (pt_number (by omega) (by omega) (by omega) k2 (by show x.o.site.toNat ≤ _; omega)) hu
    (raws_pt (n0 := n0) (by omega) hR hQ h5s (by omega) (by omega) h5 hq k4 (hlr.below (b3.mono (by omega))) hrl hr)

set_option maxHeartbeats 8000000 in
/-- An object. -/
theorem object_any {n0 : Nat} {w : World} {R Q cap i : Nat} {a : Option Addr} {os : List OL} {x : OL} (hR : n0 ≤ R) (hQ : n0 ≤ Q) (hRs : R < w.heap.size) (hQs : Q < w.heap.size) (hv : Ord n0 w (.slice a os.length cap) os) (hx : os[i]? = some x) (hn : os.length ≤ 1000000000)
    (hle : lastOf os i ≤ x.o.ser) (hs : x.o.ser < 18446744073709551616) (hk : 0 ≤ x.o.kind ∧ x.o.kind ≤ 9223372036854775807) (ht : 0 ≤ x.o.site ∧ x.o.site ≤ 9223372036854775807) (hp : ∀ z, z ∈ x.o.ps → 0 ≤ z ∧ z ≤ 9223372036854775807) (hpl : x.o.ps.length ≤ 1000000000) (hr : ∀ z, z ∈ x.o.rs → z < 18446744073709551616) (hrl : x.o.rs.length ≤ 1000000000) :
    Calls Tryd.prog 62 #[.slice a os.length cap, .int .i64 (i : Int)] w fun e w' => ∃ u, e = .returned u ∧ Below w.heap.size w w' ∧ PtC (Im.roE (x.o.ser - lastOf os i, x.o.kind.toNat, x.o.site.toNat, x.o.ps.map Int.toNat, x.o.rs)) u R w' Q := by
  have Hv : Hid (Ord n0 w (.slice a os.length cap) os) := hv
  obtain ⟨a', cap', e', hob⟩ := hv
  cases e'
  have hil := (List.getElem?_eq_some_iff.1 hx).1
  have hiI : (i : Int) < (os.length : Int) := by omega
  obtain ⟨hlp, hlr, q, off, rfl, hq, hc⟩ := hob i x hx
  have hpre : Hid (∀ k y, i = k + 1 → os[k]? = some y → w.cell? ⟨q, off + k * 5, none⟩ = some (.int .u64 (y.o.ser : Int))) := fun k y _ hy => by
    obtain ⟨-, -, q', off', e, -, hc'⟩ := hob k y hy
    cases e
    exact (hc' 0 (by decide)).trans rfl
  have Hlp : Hid (Lrd n0 w x.vp .i64 x.o.ps) := hlp
  have Hlr : Hid (Lrd n0 w x.vr .u64 (x.o.rs.map Int.ofNat)) := hlr
  have Hc : Hid (∀ j, j < 5 → w.cell? ⟨q, off + i * 5 + j, none⟩ = x.cells[j]?) := hc
  have Hi : Hid (os[i]? = some x) := hx
  clear hob hlp hlr hc hx
  have b5 : Below w.heap.size w (w.alloc (.cells #[.pointer (some ⟨q, off + i * 5, none⟩)] 78)) := Below.alloc (Below.refl _ _) (Nat.le_refl _) _
  have h5 := (Kg.heap_cell (heap_alloc_new w (.cells #[.pointer (some ⟨q, off + i * 5, none⟩)] 78 (0, 0))) 0).trans (show _ = some (.pointer (some ⟨q, off + i * 5, none⟩)) from rfl)
  have s5 : (w.alloc (.cells #[.pointer (some ⟨q, off + i * 5, none⟩)] 78)).heap.size = w.heap.size + 1 := by simp
  go_enter Tryd.func62, Tryd.ntmps62
  go_upto_region 2 with fail
  have HB5 : Hid (Below w.heap.size w (w.alloc (.cells #[.pointer (some ⟨q, off + i * 5, none⟩)] 78))) := b5
  generalize w.alloc (.cells #[.pointer (some ⟨q, off + i * 5, none⟩)] 78) = W at *
  have Hcp0 : Hid (∀ j, j < 5 → w.cell? ⟨q, off + i * 5 + j, none⟩ = x.cells[j]?) := Hc.out
  generalize off + i * 5 = po at h5 Hcp0 ⊢
  have Hcp : Hid (∀ j, j < 5 → w.cell? ⟨q, po + j, none⟩ = x.cells[j]?) := Hcp0.out
  have Hh5 : Hid (W.cell? ⟨w.heap.size, 0, none⟩ = some (.pointer (some ⟨q, po, none⟩))) := h5
  obtain ⟨ar, capr, hvr, -, -⟩ := Hlr.out
  rw [List.length_map] at hvr
  have Hvr : Hid (x.vr = .slice ar x.o.rs.length capr) := hvr
  have HN : Hid (∀ w', Below W.heap.size W w' → Calls Tryd.prog 68 #[.pointer (some ⟨q, po + 3, none⟩)] w' fun e w'' => ∃ u, e = .returned (.iface 99 u) ∧ Below w'.heap.size w' w'' ∧ PtC (Im.listE Im.num (x.o.ps.map Int.toNat)) (.iface 99 u) R w'' Q) := fun w' b' => by
    have b0 := HB5.out.trans (b'.mono HB5.out.size)
    have hsz := b0.size
    refine numbers_any hR hQ (by omega) (by omega) hq ((b0.cell (p := ⟨q, po + 3, none⟩) (by show q < w.heap.size; omega)).trans (Hcp.out 3 (by decide))) ?_ (by simpa using hpl) (fun y hy => ?_)
    · rw [show (x.o.ps.map Int.toNat).map Int.ofNat = x.o.ps from Im.map_ofNat_toNat (fun z hz => (hp z hz).1)]
      exact Hlp.out.below (b0.mono (by omega))
    · obtain ⟨z, hz, rfl⟩ := List.mem_map.1 hy
      have := hp z hz
      omega
  have HU : Hid (∀ w', Below W.heap.size W w' → Calls Tryd.prog 89 #[.pointer (some ⟨q, po + 4, none⟩), .func (.func 90) #[] #[.pointer (some ⟨w.heap.size, 0, none⟩)]] w' fun e w'' => ∃ c2, e = .returned (.iface 99 (.agg #[.int .i64 (x.o.rs.length : Int), .func (.func 90) #[] #[.pointer (some ⟨w.heap.size, 0, none⟩)], .func (.func 104) #[] #[.pointer (some ⟨c2, 0, none⟩)]])) ∧ Below w'.heap.size w' w'') := fun w' b' => by
    have b0 := HB5.out.trans (b'.mono HB5.out.size)
    have hsz := b0.size
    refine listU_any w' q (po + 4) 90 w.heap.size x.o.rs.length capr ar (by omega) ?_
    exact (b0.cell (p := ⟨q, po + 4, none⟩) (by show q < w.heap.size; omega)).trans ((Hcp.out 4 (by decide)).trans (by show some x.vr = _; rw [Hvr.out]))
  clear b5 h5 Hcp0 hvr Hc
  rcases Nat.eq_zero_or_pos i with h0 | h0
  · subst h0
    have HleL : Hid (0 ≤ x.o.ser) := Nat.zero_le _
    go_upto_region 5 with fail
    refine wp_region_held_drew (S := (fun w' => w'.cell? ⟨w.heap.size, 0, none⟩ = some (.pointer (some ⟨q, po, none⟩)))) Kg.mixed Hh5.out (fun hHeld => ?_)
    refine wpAnyH_take (i := 0) (v := (.pointer (some ⟨q, po, none⟩))) rfl (by kernel_rfl) (by kernel_rfl) (by kernel_rfl) (fun _ _ _ h => h) (Or.inl ⟨by rfl, fun wx hSw => ?_⟩) (by assumption) ?_
    · go_simp
    change wpAnyH _ _ _ _ _ _ _ (Act.put _ (some 18) (.pointer (some ⟨q, po, none⟩))) _
    simp only [Act.put, List.setIfInBounds_toArray, List.set_cons_zero, List.set_cons_succ]
    refine wpAnyH_take (i := 1) (v := (.pointer (some ⟨q, po, none⟩))) rfl (by kernel_rfl) (by kernel_rfl) (by kernel_rfl) (fun _ _ _ h => h) (Or.inl ⟨by rfl, fun wx hSw => ?_⟩) (by assumption) ?_
    · go_simp
    change wpAnyH _ _ _ _ _ _ _ (Act.put _ (some 19) (.pointer (some ⟨q, po, none⟩))) _
    simp only [Act.put, List.setIfInBounds_toArray, List.set_cons_zero, List.set_cons_succ]
    refine wpAnyH_take (i := 2) (v := (.pointer (some ⟨q, po, none⟩))) rfl (by kernel_rfl) (by kernel_rfl) (by kernel_rfl) (fun _ _ _ h => h) (Or.inl ⟨by rfl, fun wx hSw => ?_⟩) (by assumption) ?_
    · go_simp
    change wpAnyH _ _ _ _ _ _ _ (Act.put _ (some 20) (.pointer (some ⟨q, po, none⟩))) _
    simp only [Act.put, List.setIfInBounds_toArray, List.set_cons_zero, List.set_cons_succ]
    refine wpAnyH_take (i := 3) (v := (.int .u64 ((0 : Nat) : Int))) rfl (by kernel_rfl) (by kernel_rfl) (by kernel_rfl) (fun _ _ _ h => h) (Or.inl ⟨by rfl, fun wx hSw => ?_⟩) (by assumption) ?_
    · go_simp
    change wpAnyH _ _ _ _ _ _ _ (Act.put _ (some 21) (.int .u64 ((0 : Nat) : Int))) _
    simp only [Act.put, List.setIfInBounds_toArray, List.set_cons_zero, List.set_cons_succ]
    refine wpAnyH_take (i := 4) (v := (.agg #[.pointer (some ⟨q, po, none⟩), .int .u64 ((0 : Nat) : Int)])) rfl (by kernel_rfl) (by kernel_rfl) (by kernel_rfl) (fun _ _ _ h => h) (Or.inl ⟨by rfl, fun wx hSw => ?_⟩) (by assumption) ?_
    · go_simp
    change wpAnyH _ _ _ _ _ _ _ (Act.put _ (some 22) (.agg #[.pointer (some ⟨q, po, none⟩), .int .u64 ((0 : Nat) : Int)])) _
    simp only [Act.put, List.setIfInBounds_toArray, List.set_cons_zero, List.set_cons_succ]
    refine wpAnyH_take (i := 5) (v := (.iface 96 (.agg #[.pointer (some ⟨q, po, none⟩), .int .u64 ((0 : Nat) : Int)]))) rfl (by kernel_rfl) (by kernel_rfl) (by kernel_rfl) (fun _ _ _ h => h) (Or.inl ⟨by rfl, fun wx hSw => ?_⟩) (by assumption) ?_
    · go_simp
    change wpAnyH _ _ _ _ _ _ _ (Act.put _ (some 23) (.iface 96 (.agg #[.pointer (some ⟨q, po, none⟩), .int .u64 ((0 : Nat) : Int)]))) _
    simp only [Act.put, List.setIfInBounds_toArray, List.set_cons_zero, List.set_cons_succ]
    refine wpAnyH_take (i := 6) (v := (.pointer (some ⟨q, po, none⟩))) rfl (by kernel_rfl) (by kernel_rfl) (by kernel_rfl) (fun _ _ _ h => h) (Or.inl ⟨by rfl, fun wx hSw => ?_⟩) (by assumption) ?_
    · go_simp
    change wpAnyH _ _ _ _ _ _ _ (Act.put _ (some 24) (.pointer (some ⟨q, po, none⟩))) _
    simp only [Act.put, List.setIfInBounds_toArray, List.set_cons_zero, List.set_cons_succ]
    refine wpAnyH_take (i := 7) (v := (.pointer (some ⟨q, po, none⟩))) rfl (by kernel_rfl) (by kernel_rfl) (by kernel_rfl) (fun _ _ _ h => h) (Or.inl ⟨by rfl, fun wx hSw => ?_⟩) (by assumption) ?_
    · go_simp
    change wpAnyH _ _ _ _ _ _ _ (Act.put _ (some 25) (.pointer (some ⟨q, po, none⟩))) _
    simp only [Act.put, List.setIfInBounds_toArray, List.set_cons_zero, List.set_cons_succ]
    refine wpAnyH_take (i := 8) (v := (.pointer (some ⟨q, po + 1, none⟩))) rfl (by kernel_rfl) (by kernel_rfl) (by kernel_rfl) (fun _ _ _ h => h) (Or.inl ⟨by rfl, fun wx hSw => ?_⟩) (by assumption) ?_
    · go_simp
    change wpAnyH _ _ _ _ _ _ _ (Act.put _ (some 26) (.pointer (some ⟨q, po + 1, none⟩))) _
    simp only [Act.put, List.setIfInBounds_toArray, List.set_cons_zero, List.set_cons_succ]
    refine wpAnyH_take (i := 9) (v := (.agg #[.pointer (some ⟨q, po + 1, none⟩)])) rfl (by kernel_rfl) (by kernel_rfl) (by kernel_rfl) (fun _ _ _ h => h) (Or.inl ⟨by rfl, fun wx hSw => ?_⟩) (by assumption) ?_
    · go_simp
    change wpAnyH _ _ _ _ _ _ _ (Act.put _ (some 27) (.agg #[.pointer (some ⟨q, po + 1, none⟩)])) _
    simp only [Act.put, List.setIfInBounds_toArray, List.set_cons_zero, List.set_cons_succ]
    refine wpAnyH_take (i := 10) (v := (.iface 89 (.agg #[.pointer (some ⟨q, po + 1, none⟩)]))) rfl (by kernel_rfl) (by kernel_rfl) (by kernel_rfl) (fun _ _ _ h => h) (Or.inl ⟨by rfl, fun wx hSw => ?_⟩) (by assumption) ?_
    · go_simp
    change wpAnyH _ _ _ _ _ _ _ (Act.put _ (some 28) (.iface 89 (.agg #[.pointer (some ⟨q, po + 1, none⟩)]))) _
    simp only [Act.put, List.setIfInBounds_toArray, List.set_cons_zero, List.set_cons_succ]
    refine wpAnyH_take (i := 11) (v := (.pointer (some ⟨q, po, none⟩))) rfl (by kernel_rfl) (by kernel_rfl) (by kernel_rfl) (fun _ _ _ h => h) (Or.inl ⟨by rfl, fun wx hSw => ?_⟩) (by assumption) ?_
    · go_simp
    change wpAnyH _ _ _ _ _ _ _ (Act.put _ (some 29) (.pointer (some ⟨q, po, none⟩))) _
    simp only [Act.put, List.setIfInBounds_toArray, List.set_cons_zero, List.set_cons_succ]
    refine wpAnyH_take (i := 12) (v := (.pointer (some ⟨q, po, none⟩))) rfl (by kernel_rfl) (by kernel_rfl) (by kernel_rfl) (fun _ _ _ h => h) (Or.inl ⟨by rfl, fun wx hSw => ?_⟩) (by assumption) ?_
    · go_simp
    change wpAnyH _ _ _ _ _ _ _ (Act.put _ (some 30) (.pointer (some ⟨q, po, none⟩))) _
    simp only [Act.put, List.setIfInBounds_toArray, List.set_cons_zero, List.set_cons_succ]
    refine wpAnyH_take (i := 13) (v := (.pointer (some ⟨q, po + 2, none⟩))) rfl (by kernel_rfl) (by kernel_rfl) (by kernel_rfl) (fun _ _ _ h => h) (Or.inl ⟨by rfl, fun wx hSw => ?_⟩) (by assumption) ?_
    · go_simp
    change wpAnyH _ _ _ _ _ _ _ (Act.put _ (some 31) (.pointer (some ⟨q, po + 2, none⟩))) _
    simp only [Act.put, List.setIfInBounds_toArray, List.set_cons_zero, List.set_cons_succ]
    refine wpAnyH_take (i := 14) (v := (.agg #[.pointer (some ⟨q, po + 2, none⟩)])) rfl (by kernel_rfl) (by kernel_rfl) (by kernel_rfl) (fun _ _ _ h => h) (Or.inl ⟨by rfl, fun wx hSw => ?_⟩) (by assumption) ?_
    · go_simp
    change wpAnyH _ _ _ _ _ _ _ (Act.put _ (some 32) (.agg #[.pointer (some ⟨q, po + 2, none⟩)])) _
    simp only [Act.put, List.setIfInBounds_toArray, List.set_cons_zero, List.set_cons_succ]
    refine wpAnyH_take (i := 15) (v := (.iface 89 (.agg #[.pointer (some ⟨q, po + 2, none⟩)]))) rfl (by kernel_rfl) (by kernel_rfl) (by kernel_rfl) (fun _ _ _ h => h) (Or.inl ⟨by rfl, fun wx hSw => ?_⟩) (by assumption) ?_
    · go_simp
    change wpAnyH _ _ _ _ _ _ _ (Act.put _ (some 33) (.iface 89 (.agg #[.pointer (some ⟨q, po + 2, none⟩)]))) _
    simp only [Act.put, List.setIfInBounds_toArray, List.set_cons_zero, List.set_cons_succ]
    refine wpAnyH_take (i := 16) (v := (.pointer (some ⟨q, po, none⟩))) rfl (by kernel_rfl) (by kernel_rfl) (by kernel_rfl) (fun _ _ _ h => h) (Or.inl ⟨by rfl, fun wx hSw => ?_⟩) (by assumption) ?_
    · go_simp
    change wpAnyH _ _ _ _ _ _ _ (Act.put _ (some 34) (.pointer (some ⟨q, po, none⟩))) _
    simp only [Act.put, List.setIfInBounds_toArray, List.set_cons_zero, List.set_cons_succ]
    refine wpAnyH_take (i := 17) (v := (.pointer (some ⟨q, po, none⟩))) rfl (by kernel_rfl) (by kernel_rfl) (by kernel_rfl) (fun _ _ _ h => h) (Or.inl ⟨by rfl, fun wx hSw => ?_⟩) (by assumption) ?_
    · go_simp
    change wpAnyH _ _ _ _ _ _ _ (Act.put _ (some 35) (.pointer (some ⟨q, po, none⟩))) _
    simp only [Act.put, List.setIfInBounds_toArray, List.set_cons_zero, List.set_cons_succ]
    refine wpAnyH_take (i := 18) (v := (.pointer (some ⟨q, po + 3, none⟩))) rfl (by kernel_rfl) (by kernel_rfl) (by kernel_rfl) (fun _ _ _ h => h) (Or.inl ⟨by rfl, fun wx hSw => ?_⟩) (by assumption) ?_
    · go_simp
    change wpAnyH _ _ _ _ _ _ _ (Act.put _ (some 36) (.pointer (some ⟨q, po + 3, none⟩))) _
    simp only [Act.put, List.setIfInBounds_toArray, List.set_cons_zero, List.set_cons_succ]
    refine wpAnyH_take (i := 20) (v := (.pointer (some ⟨q, po, none⟩))) rfl (by kernel_rfl) (by kernel_rfl) (by kernel_rfl) (fun _ _ _ h => h) (Or.inl ⟨by rfl, fun wx hSw => ?_⟩) (by assumption) ?_
    · go_simp
    change wpAnyH _ _ _ _ _ _ _ (Act.put _ (some 38) (.pointer (some ⟨q, po, none⟩))) _
    simp only [Act.put, List.setIfInBounds_toArray, List.set_cons_zero, List.set_cons_succ]
    refine wpAnyH_take (i := 21) (v := (.pointer (some ⟨q, po, none⟩))) rfl (by kernel_rfl) (by kernel_rfl) (by kernel_rfl) (fun _ _ _ h => h) (Or.inl ⟨by rfl, fun wx hSw => ?_⟩) (by assumption) ?_
    · go_simp
    change wpAnyH _ _ _ _ _ _ _ (Act.put _ (some 39) (.pointer (some ⟨q, po, none⟩))) _
    simp only [Act.put, List.setIfInBounds_toArray, List.set_cons_zero, List.set_cons_succ]
    refine wpAnyH_take (i := 22) (v := (.pointer (some ⟨q, po + 4, none⟩))) rfl (by kernel_rfl) (by kernel_rfl) (by kernel_rfl) (fun _ _ _ h => h) (Or.inl ⟨by rfl, fun wx hSw => ?_⟩) (by assumption) ?_
    · go_simp
    change wpAnyH _ _ _ _ _ _ _ (Act.put _ (some 40) (.pointer (some ⟨q, po + 4, none⟩))) _
    simp only [Act.put, List.setIfInBounds_toArray, List.set_cons_zero, List.set_cons_succ]
    refine wpAnyH_take (i := 23) (v := (.func (.func 90) #[] #[.pointer (some ⟨w.heap.size, 0, none⟩)])) rfl (by kernel_rfl) (by kernel_rfl) (by kernel_rfl) (fun _ _ _ h => h) (Or.inl ⟨by rfl, fun wx hSw => ?_⟩) (by assumption) ?_
    · go_simp
    change wpAnyH _ _ _ _ _ _ _ (Act.put _ (some 41) (.func (.func 90) #[] #[.pointer (some ⟨w.heap.size, 0, none⟩)])) _
    simp only [Act.put, List.setIfInBounds_toArray, List.set_cons_zero, List.set_cons_succ]
    have hB0 : Below W.heap.size W W.drew := Below.drew (Below.refl _ _)
    refine wpAnyH_ready (rs := [19]) (by kernel_rfl) (by simp) (AllReadyH.cons rfl (fun K hK => ?_) AllReadyH.nil)
    go_simp
    refine (HN.out _ hB0).mono ?_
    rintro e w1 ⟨u, rfl, b1, hu1⟩
    have h51 := (b1.cell (p := ⟨w.heap.size, 0, none⟩) (by show w.heap.size < W.drew.heap.size; simp; omega)).trans Hh5.out
    have hB1 := hB0.trans (b1.mono hB0.size)
    refine hK.out _ _ h51 (fun hHeldA => ?_)
    clear hK K hHeld
    have hHeld := hHeldA
    refine wpAnyH_ready (rs := [24]) (by kernel_rfl) (by simp) (AllReadyH.cons rfl (fun K hK => ?_) AllReadyH.nil)
    go_simp
    refine (HU.out _ hB1).mono ?_
    rintro e w2 ⟨c2, rfl, b2⟩
    have h52 := (b2.cell (p := ⟨w.heap.size, 0, none⟩) (by show w.heap.size < w1.heap.size; have := hB1.size; omega)).trans h51
    have hB2 := hB1.trans (b2.mono hB1.size)
    have HB2 : Below w.heap.size w w2 := HB5.out.trans (hB2.mono HB5.out.size)
    have hu2 := hu1.keep (Kp.below b2)
    have hs2 := hB2.size
    refine hK.out _ _ h52 (fun hHeldB => ?_)
    clear hK K hHeld hHeldA h51 hB1 b1 b2 hu1 hB2
    have hHeld := hHeldB
    clear hHeldB
    refine wpAnyH_ready (rs := [25]) (by kernel_rfl) (by simp) (AllReadyH.cons rfl (fun K hK => ?_) AllReadyH.nil)
    go_simp
    have b3 : Below w2.heap.size w2 (w2.alloc (.cells #[.iface 96 (.agg #[.pointer (some ⟨q, po, none⟩), .int .u64 ((0 : Nat) : Int)]), .iface 89 (.agg #[.pointer (some ⟨q, po + 1, none⟩)]), .iface 89 (.agg #[.pointer (some ⟨q, po + 2, none⟩)]), .iface 99 u, .iface 99 (.agg #[.int .i64 (x.o.rs.length : Int), .func (.func 90) #[] #[.pointer (some ⟨w.heap.size, 0, none⟩)], .func (.func 104) #[] #[.pointer (some ⟨c2, 0, none⟩)]])] 67)) := Below.alloc (Below.refl _ _) (Nat.le_refl _) _
    have hg3 := heap_alloc_new w2 (.cells #[.iface 96 (.agg #[.pointer (some ⟨q, po, none⟩), .int .u64 ((0 : Nat) : Int)]), .iface 89 (.agg #[.pointer (some ⟨q, po + 1, none⟩)]), .iface 89 (.agg #[.pointer (some ⟨q, po + 2, none⟩)]), .iface 99 u, .iface 99 (.agg #[.int .i64 (x.o.rs.length : Int), .func (.func 90) #[] #[.pointer (some ⟨w.heap.size, 0, none⟩)], .func (.func 104) #[] #[.pointer (some ⟨c2, 0, none⟩)]])] 67 (0, 0))
    have hx5 := (b3.cell (p := ⟨w.heap.size, 0, none⟩) (by show w.heap.size < w2.heap.size; omega)).trans h52
    refine hK.out _ _ hx5 (fun hHeld25 => ?_)
    clear hK K hHeld
    have hHeld := hHeld25
    generalize w2.alloc (.cells #[.iface 96 (.agg #[.pointer (some ⟨q, po, none⟩), .int .u64 ((0 : Nat) : Int)]), .iface 89 (.agg #[.pointer (some ⟨q, po + 1, none⟩)]), .iface 89 (.agg #[.pointer (some ⟨q, po + 2, none⟩)]), .iface 99 u, .iface 99 (.agg #[.int .i64 (x.o.rs.length : Int), .func (.func 90) #[] #[.pointer (some ⟨w.heap.size, 0, none⟩)], .func (.func 104) #[] #[.pointer (some ⟨c2, 0, none⟩)]])] 67) = w3 at *
    refine wpAnyH_take (i := 26) (v := (.iface 101 (.slice (some ⟨w2.heap.size, 0, none⟩) 5 5))) rfl (by kernel_rfl) (by kernel_rfl) (by kernel_rfl) (fun _ _ _ h => h) (Or.inl ⟨by rfl, fun wx hSw => ?_⟩) (by assumption) ?_
    · go_simp
    change wpAnyH _ _ _ _ _ _ _ (Act.put _ (some 44) (.iface 101 (.slice (some ⟨w2.heap.size, 0, none⟩) 5 5))) _
    simp only [Act.put, List.setIfInBounds_toArray, List.set_cons_zero, List.set_cons_succ]
    refine wpAnyH_take (i := 27) (v := (.iface 101 (.slice (some ⟨w2.heap.size, 0, none⟩) 5 5))) rfl (by kernel_rfl) (by kernel_rfl) (by kernel_rfl) (fun _ _ _ h => h) (Or.inl ⟨by rfl, fun wx hSw => ?_⟩) (by assumption) ?_
    · go_simp
    change wpAnyH _ _ _ _ _ _ _ (Act.put _ (some 4) (.iface 101 (.slice (some ⟨w2.heap.size, 0, none⟩) 5 5))) _
    simp only [Act.put, List.setIfInBounds_toArray, List.set_cons_zero, List.set_cons_succ]
    refine wpAnyH_done (by kernel_rfl) ?_ _
    have HF : Hid (Below w.heap.size w w3 ∧ PtC (Im.roE (x.o.ser - 0, x.o.kind.toNat, x.o.site.toNat, x.o.ps.map Int.toNat, x.o.rs)) (.iface 101 (.slice (some ⟨w2.heap.size, 0, none⟩) 5 5)) R w3 Q) := by
      have hB3 := HB2.trans (b3.mono HB2.size)
      exact ⟨hB3, obj_pt hR hQ hRs hQs hB3 hq Hcp.out Hvr.out Hlr.out hx5 (Nat.le_refl _) (by have := b3.size; omega) HB2.size hg3 (hu2.keep (Kp.below b3)) HleL.out hs hk ht hr hrl⟩
    clear hx5 hHeld hHeld25 hg3 b3 h52 hu2 HB2
    go_wp2
    go_ret
    exact ⟨_, rfl, HF.out.1, HF.out.2⟩
  · obtain ⟨k, rfl⟩ : ∃ k, i = k + 1 := ⟨i - 1, by omega⟩
    have hk1 : os[k]? = some (os[k]'(by omega)) := List.getElem?_eq_getElem (by omega)
    generalize os[k]'(by omega) = y at hk1
    have hcy : W.cell? ⟨q, off + k * 5, none⟩ = some (.int .u64 (y.o.ser : Int)) := (HB5.out.cell (p := ⟨q, off + k * 5, none⟩) (by show q < w.heap.size; omega)).trans (hpre.out k y rfl hk1)
    have hkI : ((k + 1 : Nat) : Int) - 1 = (k : Int) := by omega
    have hkp : ((k + 1 : Nat) : Int) > 0 := by omega
    have HeL : Hid (lastOf os (k + 1) = y.o.ser) := by show _ = _; simp [lastOf, hk1]
    have HleL : Hid (y.o.ser ≤ x.o.ser) := by have := HeL.out; show _ ≤ _; omega
    go_upto_region 5 with fail
    clear hcy hkI hkp hk1
    refine wp_region_held_drew (S := (fun w' => w'.cell? ⟨w.heap.size, 0, none⟩ = some (.pointer (some ⟨q, po, none⟩)))) Kg.mixed Hh5.out (fun hHeld => ?_)
    refine wpAnyH_take (i := 0) (v := (.pointer (some ⟨q, po, none⟩))) rfl (by kernel_rfl) (by kernel_rfl) (by kernel_rfl) (fun _ _ _ h => h) (Or.inl ⟨by rfl, fun wx hSw => ?_⟩) (by assumption) ?_
    · go_simp
    change wpAnyH _ _ _ _ _ _ _ (Act.put _ (some 18) (.pointer (some ⟨q, po, none⟩))) _
    simp only [Act.put, List.setIfInBounds_toArray, List.set_cons_zero, List.set_cons_succ]
    refine wpAnyH_take (i := 1) (v := (.pointer (some ⟨q, po, none⟩))) rfl (by kernel_rfl) (by kernel_rfl) (by kernel_rfl) (fun _ _ _ h => h) (Or.inl ⟨by rfl, fun wx hSw => ?_⟩) (by assumption) ?_
    · go_simp
    change wpAnyH _ _ _ _ _ _ _ (Act.put _ (some 19) (.pointer (some ⟨q, po, none⟩))) _
    simp only [Act.put, List.setIfInBounds_toArray, List.set_cons_zero, List.set_cons_succ]
    refine wpAnyH_take (i := 2) (v := (.pointer (some ⟨q, po, none⟩))) rfl (by kernel_rfl) (by kernel_rfl) (by kernel_rfl) (fun _ _ _ h => h) (Or.inl ⟨by rfl, fun wx hSw => ?_⟩) (by assumption) ?_
    · go_simp
    change wpAnyH _ _ _ _ _ _ _ (Act.put _ (some 20) (.pointer (some ⟨q, po, none⟩))) _
    simp only [Act.put, List.setIfInBounds_toArray, List.set_cons_zero, List.set_cons_succ]
    refine wpAnyH_take (i := 3) (v := (.int .u64 (y.o.ser : Int))) rfl (by kernel_rfl) (by kernel_rfl) (by kernel_rfl) (fun _ _ _ h => h) (Or.inl ⟨by rfl, fun wx hSw => ?_⟩) (by assumption) ?_
    · go_simp
    change wpAnyH _ _ _ _ _ _ _ (Act.put _ (some 21) (.int .u64 (y.o.ser : Int))) _
    simp only [Act.put, List.setIfInBounds_toArray, List.set_cons_zero, List.set_cons_succ]
    refine wpAnyH_take (i := 4) (v := (.agg #[.pointer (some ⟨q, po, none⟩), .int .u64 (y.o.ser : Int)])) rfl (by kernel_rfl) (by kernel_rfl) (by kernel_rfl) (fun _ _ _ h => h) (Or.inl ⟨by rfl, fun wx hSw => ?_⟩) (by assumption) ?_
    · go_simp
    change wpAnyH _ _ _ _ _ _ _ (Act.put _ (some 22) (.agg #[.pointer (some ⟨q, po, none⟩), .int .u64 (y.o.ser : Int)])) _
    simp only [Act.put, List.setIfInBounds_toArray, List.set_cons_zero, List.set_cons_succ]
    refine wpAnyH_take (i := 5) (v := (.iface 96 (.agg #[.pointer (some ⟨q, po, none⟩), .int .u64 (y.o.ser : Int)]))) rfl (by kernel_rfl) (by kernel_rfl) (by kernel_rfl) (fun _ _ _ h => h) (Or.inl ⟨by rfl, fun wx hSw => ?_⟩) (by assumption) ?_
    · go_simp
    change wpAnyH _ _ _ _ _ _ _ (Act.put _ (some 23) (.iface 96 (.agg #[.pointer (some ⟨q, po, none⟩), .int .u64 (y.o.ser : Int)]))) _
    simp only [Act.put, List.setIfInBounds_toArray, List.set_cons_zero, List.set_cons_succ]
    refine wpAnyH_take (i := 6) (v := (.pointer (some ⟨q, po, none⟩))) rfl (by kernel_rfl) (by kernel_rfl) (by kernel_rfl) (fun _ _ _ h => h) (Or.inl ⟨by rfl, fun wx hSw => ?_⟩) (by assumption) ?_
    · go_simp
    change wpAnyH _ _ _ _ _ _ _ (Act.put _ (some 24) (.pointer (some ⟨q, po, none⟩))) _
    simp only [Act.put, List.setIfInBounds_toArray, List.set_cons_zero, List.set_cons_succ]
    refine wpAnyH_take (i := 7) (v := (.pointer (some ⟨q, po, none⟩))) rfl (by kernel_rfl) (by kernel_rfl) (by kernel_rfl) (fun _ _ _ h => h) (Or.inl ⟨by rfl, fun wx hSw => ?_⟩) (by assumption) ?_
    · go_simp
    change wpAnyH _ _ _ _ _ _ _ (Act.put _ (some 25) (.pointer (some ⟨q, po, none⟩))) _
    simp only [Act.put, List.setIfInBounds_toArray, List.set_cons_zero, List.set_cons_succ]
    refine wpAnyH_take (i := 8) (v := (.pointer (some ⟨q, po + 1, none⟩))) rfl (by kernel_rfl) (by kernel_rfl) (by kernel_rfl) (fun _ _ _ h => h) (Or.inl ⟨by rfl, fun wx hSw => ?_⟩) (by assumption) ?_
    · go_simp
    change wpAnyH _ _ _ _ _ _ _ (Act.put _ (some 26) (.pointer (some ⟨q, po + 1, none⟩))) _
    simp only [Act.put, List.setIfInBounds_toArray, List.set_cons_zero, List.set_cons_succ]
    refine wpAnyH_take (i := 9) (v := (.agg #[.pointer (some ⟨q, po + 1, none⟩)])) rfl (by kernel_rfl) (by kernel_rfl) (by kernel_rfl) (fun _ _ _ h => h) (Or.inl ⟨by rfl, fun wx hSw => ?_⟩) (by assumption) ?_
    · go_simp
    change wpAnyH _ _ _ _ _ _ _ (Act.put _ (some 27) (.agg #[.pointer (some ⟨q, po + 1, none⟩)])) _
    simp only [Act.put, List.setIfInBounds_toArray, List.set_cons_zero, List.set_cons_succ]
    refine wpAnyH_take (i := 10) (v := (.iface 89 (.agg #[.pointer (some ⟨q, po + 1, none⟩)]))) rfl (by kernel_rfl) (by kernel_rfl) (by kernel_rfl) (fun _ _ _ h => h) (Or.inl ⟨by rfl, fun wx hSw => ?_⟩) (by assumption) ?_
    · go_simp
    change wpAnyH _ _ _ _ _ _ _ (Act.put _ (some 28) (.iface 89 (.agg #[.pointer (some ⟨q, po + 1, none⟩)]))) _
    simp only [Act.put, List.setIfInBounds_toArray, List.set_cons_zero, List.set_cons_succ]
    refine wpAnyH_take (i := 11) (v := (.pointer (some ⟨q, po, none⟩))) rfl (by kernel_rfl) (by kernel_rfl) (by kernel_rfl) (fun _ _ _ h => h) (Or.inl ⟨by rfl, fun wx hSw => ?_⟩) (by assumption) ?_
    · go_simp
    change wpAnyH _ _ _ _ _ _ _ (Act.put _ (some 29) (.pointer (some ⟨q, po, none⟩))) _
    simp only [Act.put, List.setIfInBounds_toArray, List.set_cons_zero, List.set_cons_succ]
    refine wpAnyH_take (i := 12) (v := (.pointer (some ⟨q, po, none⟩))) rfl (by kernel_rfl) (by kernel_rfl) (by kernel_rfl) (fun _ _ _ h => h) (Or.inl ⟨by rfl, fun wx hSw => ?_⟩) (by assumption) ?_
    · go_simp
    change wpAnyH _ _ _ _ _ _ _ (Act.put _ (some 30) (.pointer (some ⟨q, po, none⟩))) _
    simp only [Act.put, List.setIfInBounds_toArray, List.set_cons_zero, List.set_cons_succ]
    refine wpAnyH_take (i := 13) (v := (.pointer (some ⟨q, po + 2, none⟩))) rfl (by kernel_rfl) (by kernel_rfl) (by kernel_rfl) (fun _ _ _ h => h) (Or.inl ⟨by rfl, fun wx hSw => ?_⟩) (by assumption) ?_
    · go_simp
    change wpAnyH _ _ _ _ _ _ _ (Act.put _ (some 31) (.pointer (some ⟨q, po + 2, none⟩))) _
    simp only [Act.put, List.setIfInBounds_toArray, List.set_cons_zero, List.set_cons_succ]
    refine wpAnyH_take (i := 14) (v := (.agg #[.pointer (some ⟨q, po + 2, none⟩)])) rfl (by kernel_rfl) (by kernel_rfl) (by kernel_rfl) (fun _ _ _ h => h) (Or.inl ⟨by rfl, fun wx hSw => ?_⟩) (by assumption) ?_
    · go_simp
    change wpAnyH _ _ _ _ _ _ _ (Act.put _ (some 32) (.agg #[.pointer (some ⟨q, po + 2, none⟩)])) _
    simp only [Act.put, List.setIfInBounds_toArray, List.set_cons_zero, List.set_cons_succ]
    refine wpAnyH_take (i := 15) (v := (.iface 89 (.agg #[.pointer (some ⟨q, po + 2, none⟩)]))) rfl (by kernel_rfl) (by kernel_rfl) (by kernel_rfl) (fun _ _ _ h => h) (Or.inl ⟨by rfl, fun wx hSw => ?_⟩) (by assumption) ?_
    · go_simp
    change wpAnyH _ _ _ _ _ _ _ (Act.put _ (some 33) (.iface 89 (.agg #[.pointer (some ⟨q, po + 2, none⟩)]))) _
    simp only [Act.put, List.setIfInBounds_toArray, List.set_cons_zero, List.set_cons_succ]
    refine wpAnyH_take (i := 16) (v := (.pointer (some ⟨q, po, none⟩))) rfl (by kernel_rfl) (by kernel_rfl) (by kernel_rfl) (fun _ _ _ h => h) (Or.inl ⟨by rfl, fun wx hSw => ?_⟩) (by assumption) ?_
    · go_simp
    change wpAnyH _ _ _ _ _ _ _ (Act.put _ (some 34) (.pointer (some ⟨q, po, none⟩))) _
    simp only [Act.put, List.setIfInBounds_toArray, List.set_cons_zero, List.set_cons_succ]
    refine wpAnyH_take (i := 17) (v := (.pointer (some ⟨q, po, none⟩))) rfl (by kernel_rfl) (by kernel_rfl) (by kernel_rfl) (fun _ _ _ h => h) (Or.inl ⟨by rfl, fun wx hSw => ?_⟩) (by assumption) ?_
    · go_simp
    change wpAnyH _ _ _ _ _ _ _ (Act.put _ (some 35) (.pointer (some ⟨q, po, none⟩))) _
    simp only [Act.put, List.setIfInBounds_toArray, List.set_cons_zero, List.set_cons_succ]
    refine wpAnyH_take (i := 18) (v := (.pointer (some ⟨q, po + 3, none⟩))) rfl (by kernel_rfl) (by kernel_rfl) (by kernel_rfl) (fun _ _ _ h => h) (Or.inl ⟨by rfl, fun wx hSw => ?_⟩) (by assumption) ?_
    · go_simp
    change wpAnyH _ _ _ _ _ _ _ (Act.put _ (some 36) (.pointer (some ⟨q, po + 3, none⟩))) _
    simp only [Act.put, List.setIfInBounds_toArray, List.set_cons_zero, List.set_cons_succ]
    refine wpAnyH_take (i := 20) (v := (.pointer (some ⟨q, po, none⟩))) rfl (by kernel_rfl) (by kernel_rfl) (by kernel_rfl) (fun _ _ _ h => h) (Or.inl ⟨by rfl, fun wx hSw => ?_⟩) (by assumption) ?_
    · go_simp
    change wpAnyH _ _ _ _ _ _ _ (Act.put _ (some 38) (.pointer (some ⟨q, po, none⟩))) _
    simp only [Act.put, List.setIfInBounds_toArray, List.set_cons_zero, List.set_cons_succ]
    refine wpAnyH_take (i := 21) (v := (.pointer (some ⟨q, po, none⟩))) rfl (by kernel_rfl) (by kernel_rfl) (by kernel_rfl) (fun _ _ _ h => h) (Or.inl ⟨by rfl, fun wx hSw => ?_⟩) (by assumption) ?_
    · go_simp
    change wpAnyH _ _ _ _ _ _ _ (Act.put _ (some 39) (.pointer (some ⟨q, po, none⟩))) _
    simp only [Act.put, List.setIfInBounds_toArray, List.set_cons_zero, List.set_cons_succ]
    refine wpAnyH_take (i := 22) (v := (.pointer (some ⟨q, po + 4, none⟩))) rfl (by kernel_rfl) (by kernel_rfl) (by kernel_rfl) (fun _ _ _ h => h) (Or.inl ⟨by rfl, fun wx hSw => ?_⟩) (by assumption) ?_
    · go_simp
    change wpAnyH _ _ _ _ _ _ _ (Act.put _ (some 40) (.pointer (some ⟨q, po + 4, none⟩))) _
    simp only [Act.put, List.setIfInBounds_toArray, List.set_cons_zero, List.set_cons_succ]
    refine wpAnyH_take (i := 23) (v := (.func (.func 90) #[] #[.pointer (some ⟨w.heap.size, 0, none⟩)])) rfl (by kernel_rfl) (by kernel_rfl) (by kernel_rfl) (fun _ _ _ h => h) (Or.inl ⟨by rfl, fun wx hSw => ?_⟩) (by assumption) ?_
    · go_simp
    change wpAnyH _ _ _ _ _ _ _ (Act.put _ (some 41) (.func (.func 90) #[] #[.pointer (some ⟨w.heap.size, 0, none⟩)])) _
    simp only [Act.put, List.setIfInBounds_toArray, List.set_cons_zero, List.set_cons_succ]
    have hB0 : Below W.heap.size W W.drew := Below.drew (Below.refl _ _)
    refine wpAnyH_ready (rs := [19]) (by kernel_rfl) (by simp) (AllReadyH.cons rfl (fun K hK => ?_) AllReadyH.nil)
    go_simp
    refine (HN.out _ hB0).mono ?_
    rintro e w1 ⟨u, rfl, b1, hu1⟩
    have h51 := (b1.cell (p := ⟨w.heap.size, 0, none⟩) (by show w.heap.size < W.drew.heap.size; simp; omega)).trans Hh5.out
    have hB1 := hB0.trans (b1.mono hB0.size)
    refine hK.out _ _ h51 (fun hHeldA => ?_)
    clear hK K hHeld
    have hHeld := hHeldA
    refine wpAnyH_ready (rs := [24]) (by kernel_rfl) (by simp) (AllReadyH.cons rfl (fun K hK => ?_) AllReadyH.nil)
    go_simp
    refine (HU.out _ hB1).mono ?_
    rintro e w2 ⟨c2, rfl, b2⟩
    have h52 := (b2.cell (p := ⟨w.heap.size, 0, none⟩) (by show w.heap.size < w1.heap.size; have := hB1.size; omega)).trans h51
    have hB2 := hB1.trans (b2.mono hB1.size)
    have HB2 : Below w.heap.size w w2 := HB5.out.trans (hB2.mono HB5.out.size)
    have hu2 := hu1.keep (Kp.below b2)
    have hs2 := hB2.size
    refine hK.out _ _ h52 (fun hHeldB => ?_)
    clear hK K hHeld hHeldA h51 hB1 b1 b2 hu1 hB2
    have hHeld := hHeldB
    clear hHeldB
    refine wpAnyH_ready (rs := [25]) (by kernel_rfl) (by simp) (AllReadyH.cons rfl (fun K hK => ?_) AllReadyH.nil)
    go_simp
    have b3 : Below w2.heap.size w2 (w2.alloc (.cells #[.iface 96 (.agg #[.pointer (some ⟨q, po, none⟩), .int .u64 (y.o.ser : Int)]), .iface 89 (.agg #[.pointer (some ⟨q, po + 1, none⟩)]), .iface 89 (.agg #[.pointer (some ⟨q, po + 2, none⟩)]), .iface 99 u, .iface 99 (.agg #[.int .i64 (x.o.rs.length : Int), .func (.func 90) #[] #[.pointer (some ⟨w.heap.size, 0, none⟩)], .func (.func 104) #[] #[.pointer (some ⟨c2, 0, none⟩)]])] 67)) := Below.alloc (Below.refl _ _) (Nat.le_refl _) _
    have hg3 := heap_alloc_new w2 (.cells #[.iface 96 (.agg #[.pointer (some ⟨q, po, none⟩), .int .u64 (y.o.ser : Int)]), .iface 89 (.agg #[.pointer (some ⟨q, po + 1, none⟩)]), .iface 89 (.agg #[.pointer (some ⟨q, po + 2, none⟩)]), .iface 99 u, .iface 99 (.agg #[.int .i64 (x.o.rs.length : Int), .func (.func 90) #[] #[.pointer (some ⟨w.heap.size, 0, none⟩)], .func (.func 104) #[] #[.pointer (some ⟨c2, 0, none⟩)]])] 67 (0, 0))
    have hx5 := (b3.cell (p := ⟨w.heap.size, 0, none⟩) (by show w.heap.size < w2.heap.size; omega)).trans h52
    refine hK.out _ _ hx5 (fun hHeld25 => ?_)
    clear hK K hHeld
    have hHeld := hHeld25
    generalize w2.alloc (.cells #[.iface 96 (.agg #[.pointer (some ⟨q, po, none⟩), .int .u64 (y.o.ser : Int)]), .iface 89 (.agg #[.pointer (some ⟨q, po + 1, none⟩)]), .iface 89 (.agg #[.pointer (some ⟨q, po + 2, none⟩)]), .iface 99 u, .iface 99 (.agg #[.int .i64 (x.o.rs.length : Int), .func (.func 90) #[] #[.pointer (some ⟨w.heap.size, 0, none⟩)], .func (.func 104) #[] #[.pointer (some ⟨c2, 0, none⟩)]])] 67) = w3 at *
    refine wpAnyH_take (i := 26) (v := (.iface 101 (.slice (some ⟨w2.heap.size, 0, none⟩) 5 5))) rfl (by kernel_rfl) (by kernel_rfl) (by kernel_rfl) (fun _ _ _ h => h) (Or.inl ⟨by rfl, fun wx hSw => ?_⟩) (by assumption) ?_
    · go_simp
    change wpAnyH _ _ _ _ _ _ _ (Act.put _ (some 44) (.iface 101 (.slice (some ⟨w2.heap.size, 0, none⟩) 5 5))) _
    simp only [Act.put, List.setIfInBounds_toArray, List.set_cons_zero, List.set_cons_succ]
    refine wpAnyH_take (i := 27) (v := (.iface 101 (.slice (some ⟨w2.heap.size, 0, none⟩) 5 5))) rfl (by kernel_rfl) (by kernel_rfl) (by kernel_rfl) (fun _ _ _ h => h) (Or.inl ⟨by rfl, fun wx hSw => ?_⟩) (by assumption) ?_
    · go_simp
    change wpAnyH _ _ _ _ _ _ _ (Act.put _ (some 4) (.iface 101 (.slice (some ⟨w2.heap.size, 0, none⟩) 5 5))) _
    simp only [Act.put, List.setIfInBounds_toArray, List.set_cons_zero, List.set_cons_succ]
    refine wpAnyH_done (by kernel_rfl) ?_ _
    have HF : Hid (Below w.heap.size w w3 ∧ PtC (Im.roE (x.o.ser - y.o.ser, x.o.kind.toNat, x.o.site.toNat, x.o.ps.map Int.toNat, x.o.rs)) (.iface 101 (.slice (some ⟨w2.heap.size, 0, none⟩) 5 5)) R w3 Q) := by
      have hB3 := HB2.trans (b3.mono HB2.size)
      exact ⟨hB3, obj_pt hR hQ hRs hQs hB3 hq Hcp.out Hvr.out Hlr.out hx5 (Nat.le_refl _) (by have := b3.size; omega) HB2.size hg3 (hu2.keep (Kp.below b3)) HleL.out hs hk ht hr hrl⟩
    clear hx5 hHeld hHeld25 hg3 b3 h52 hu2 HB2
    go_wp2
    go_ret
    exact ⟨_, rfl, HF.out.1, by rw [HeL.out]; exact HF.out.2⟩

end Go.Proofs.YtblbiikfipcbcaaDoor

/-
  Images, the writer: handles, slots, objects.
-/
set_option linter.unusedVariables false
set_option maxRecDepth 20000
namespace Go.Proofs.YtblbiikfipcbcaaDoor
open Go.RowKit Go.Shelf

theorem parts1_enters : ∀ args w, (callFunc 61 args).run Tryd.prog w = .ok (.enter 61 args) w := enters_of Tryd.func61 (by kernel_rfl) rfl
theorem parts2_enters : ∀ args w, (callFunc 64 args).run Tryd.prog w = .ok (.enter 64 args) w := enters_of Tryd.func64 (by kernel_rfl) rfl
theorem parts3_enters : ∀ args w, (callFunc 67 args).run Tryd.prog w = .ok (.enter 67 args) w := enters_of Tryd.func67 (by kernel_rfl) rfl

/-- What can be written. -/
structure Wc (os : List OL) (ts : List (Value × List (Value × List Int))) (g : Im.Gr) : Prop where
  n : os.length ≤ 1000000000
  o : ∀ (i : Nat) x, os[i]? = some x → lastOf os i ≤ x.o.ser ∧ x.o.ser < 18446744073709551616 ∧ (0 ≤ x.o.kind ∧ x.o.kind ≤ 9223372036854775807) ∧ (0 ≤ x.o.site ∧ x.o.site ≤ 9223372036854775807) ∧ (∀ z, z ∈ x.o.ps → 0 ≤ z ∧ z ≤ 9223372036854775807) ∧ x.o.ps.length ≤ 1000000000 ∧ (∀ z, z ∈ x.o.rs → z < 18446744073709551616) ∧ x.o.rs.length ≤ 1000000000
  t : ts.length ≤ 1000000000
  tl : ∀ t, t ∈ ts → t.2.length ≤ 1000000000 ∧ ∀ f, f ∈ t.2 → f.2.length ≤ 1000000000 ∧ ∀ z, z ∈ f.2 → 0 ≤ z ∧ z ≤ 9223372036854775807
  hl : g.hs.length ≤ 1000000000
  h : ∀ z, z ∈ g.hs → -1 ≤ z ∧ z < 9223372036854775807
  ql : g.qu.length ≤ 1000000000
  q : ∀ z, z ∈ g.qu → 0 ≤ z ∧ z ≤ 9223372036854775807

theorem parts3_any (w : World) (c b i q off n cap : Nat) (hc : w.cell? ⟨c, 0, none⟩ = some (.pointer (some ⟨b, 0, none⟩))) (hb : w.cell? ⟨b, 2, none⟩ = some (.slice (some ⟨q, off, none⟩) n cap)) (hi : i < n) (hn : n ≤ 1000000000) :
    Calls Tryd.prog 67 #[.int .i64 (i : Int), .pointer (some ⟨c, 0, none⟩)] w fun e w' => e = .returned (.iface 91 (.agg #[.pointer (some ⟨q, off + i, none⟩)])) ∧ w' = w := by
  have hiI : (i : Int) < (n : Int) := by omega
  go_enter Tryd.func67, Tryd.ntmps67
  go_wp2
  go_ret
  exact ⟨rfl, rfl⟩

theorem handles_pt {n0 : Nat} {w : World} {R Q c b cap c2 G : Nat} {a : Option Addr} {hs : List Int} (hw : n0 ≤ w.heap.size) (hR : n0 ≤ R) (hQ : n0 ≤ Q) (hcs : c < w.heap.size) (hcR : c ≠ R) (hcQ : c ≠ Q) (hc : w.cell? ⟨c, 0, none⟩ = some (.pointer (some ⟨b, 0, none⟩))) (hb : b < n0)
    (hcell : w.cell? ⟨b, 2, none⟩ = some (.slice a hs.length cap)) (hv : Lrd n0 w (.slice a hs.length cap) .i64 hs) (hlen : hs.length ≤ 1000000000) (hx : ∀ z, z ∈ hs → -1 ≤ z ∧ z < 9223372036854775807) :
    PtC (Im.listE Im.num (hs.map fun z => (z + 1).toNat)) (.iface 99 (.agg #[.int .i64 (hs.length : Int), .func (.func 67) #[] #[.pointer (some ⟨c, 0, none⟩)], .func (.func G) #[] #[.pointer (some ⟨c2, 0, none⟩)]])) R w Q := by
  have e1 : Im.listE Im.num (hs.map fun z => (z + 1).toNat) = Im.num (hs.map fun z => Im.num (z + 1).toNat).length ++ (hs.map fun z => Im.num (z + 1).toNat).flatten := by simp [Im.listE, List.flatMap, Function.comp_def]
  rw [e1, show (hs.length : Int) = ((hs.map fun z => Im.num (z + 1).toNat).length : Int) by simp]
  refine pt_list (by simpa using hlen) parts3_enters (fun i l hl w5 Q5 k5 hR5 hQ5s => ?_)
  rw [List.getElem?_map, Option.map_eq_some_iff] at hl
  obtain ⟨z, hzi, rfl⟩ := hl
  have hil := (List.getElem?_eq_some_iff.1 hzi).1
  obtain ⟨bl, hQ5⟩ := k5.low (n0 := n0) hw hR hQ
  obtain ⟨a', cap', e', -, hel⟩ := hv.below bl
  cases e'
  obtain ⟨q, off, rfl, hq, hce⟩ := hel i z hzi
  have hz := hx z (List.mem_of_getElem? hzi)
  refine (parts3_any w5 c b i q off hs.length cap ((k5.cell hcs hcR hcQ).trans hc) ((bl.cell (p := ⟨b, 2, none⟩) hb).trans hcell) hil hlen).mono ?_
  rintro e w6 ⟨rfl, rfl⟩
  exact ⟨_, rfl, Below.refl _ _, pt_handle (by have := k5.t.size; omega) (by omega) (by omega) hce hz.1 hz.2⟩

theorem parts2_any (w : World) (c b i q off n cap : Nat) (hc : w.cell? ⟨c, 0, none⟩ = some (.pointer (some ⟨b, 0, none⟩))) (hb : w.cell? ⟨b, 1, none⟩ = some (.slice (some ⟨q, off, none⟩) n cap)) (hi : i < n) (hn : n ≤ 1000000000) (Post : World → Value → Prop)
    (hC : Calls Tryd.prog 65 #[.pointer (some ⟨q, off + i, none⟩)] w fun e w' => ∃ u, e = .returned u ∧ Post w' u) :
    Calls Tryd.prog 64 #[.int .i64 (i : Int), .pointer (some ⟨c, 0, none⟩)] w fun e w' => ∃ u, e = .returned u ∧ Post w' u := by
  have hiI : (i : Int) < (n : Int) := by omega
  go_enter Tryd.func64, Tryd.ntmps64
  go_wp2_with fail
  refine hC.mono ?_
  rintro e w2 ⟨u, rfl, hP⟩
  have HP : Hid (Post w2 u) := hP
  clear hC hP
  go_wp2
  go_ret
  exact ⟨_, rfl, HP.out⟩

theorem slots_pt {n0 : Nat} {w : World} {R Q c b cap c2 G : Nat} {a : Option Addr} {ts : List (Value × List (Value × List Int))} (hw : n0 ≤ w.heap.size) (hR : n0 ≤ R) (hQ : n0 ≤ Q) (hcs : c < w.heap.size) (hcR : c ≠ R) (hcQ : c ≠ Q) (hc : w.cell? ⟨c, 0, none⟩ = some (.pointer (some ⟨b, 0, none⟩))) (hb : b < n0)
    (hcell : w.cell? ⟨b, 1, none⟩ = some (.slice a ts.length cap)) (hv : Trd n0 w (.slice a ts.length cap) ts) (hlen : ts.length ≤ 1000000000) (hx : ∀ t, t ∈ ts → t.2.length ≤ 1000000000 ∧ ∀ f, f ∈ t.2 → f.2.length ≤ 1000000000 ∧ ∀ z, z ∈ f.2 → 0 ≤ z ∧ z ≤ 9223372036854775807) :
    PtC (Im.listE (Im.listE (Im.listE Im.num)) (ts.map fun t => t.2.map fun f => f.2.map Int.toNat)) (.iface 99 (.agg #[.int .i64 (ts.length : Int), .func (.func 64) #[] #[.pointer (some ⟨c, 0, none⟩)], .func (.func G) #[] #[.pointer (some ⟨c2, 0, none⟩)]])) R w Q := by
  have e1 : Im.listE (Im.listE (Im.listE Im.num)) (ts.map fun t => t.2.map fun f => f.2.map Int.toNat) = Im.num (ts.map fun t => Im.listE (Im.listE Im.num) (t.2.map fun f => f.2.map Int.toNat)).length ++ (ts.map fun t => Im.listE (Im.listE Im.num) (t.2.map fun f => f.2.map Int.toNat)).flatten := by
    rw [show Im.listE (Im.listE (Im.listE Im.num)) (ts.map fun t => t.2.map fun f => f.2.map Int.toNat) = Im.num (ts.map fun t => t.2.map fun f => f.2.map Int.toNat).length ++ (ts.map fun t => t.2.map fun f => f.2.map Int.toNat).flatMap (Im.listE (Im.listE Im.num)) from rfl, List.flatMap, List.map_map, List.length_map, List.length_map]
    rfl
  rw [e1, show (ts.length : Int) = ((ts.map fun t => Im.listE (Im.listE Im.num) (t.2.map fun f => f.2.map Int.toNat)).length : Int) by simp]
  refine pt_list (by simpa using hlen) parts2_enters (fun i l hl w5 Q5 k5 hR5 hQ5s => ?_)
  rw [List.getElem?_map, Option.map_eq_some_iff] at hl
  obtain ⟨t, hti, rfl⟩ := hl
  have hil := (List.getElem?_eq_some_iff.1 hti).1
  obtain ⟨bl, hQ5⟩ := k5.low (n0 := n0) hw hR hQ
  obtain ⟨a', cap', e', hel⟩ := hv.below bl
  cases e'
  obtain ⟨hfr, q, off, rfl, hq, hce⟩ := hel i t hti
  have ht := hx t (List.mem_of_getElem? hti)
  refine (parts2_any w5 c b i q off ts.length cap ((k5.cell hcs hcR hcQ).trans hc) ((bl.cell (p := ⟨b, 1, none⟩) hb).trans hcell) hil hlen (fun w' u => Below w5.heap.size w5 w' ∧ PtC (Im.listE (Im.listE Im.num) (t.2.map fun f => f.2.map Int.toNat)) u R w' Q5) ?_).mono (fun e w6 h => h)
  exact (frames_any hR hQ5 hR5 hQ5s hq hce hfr ht.1 (fun f hf => (ht.2 f hf).1) (fun f hf => (ht.2 f hf).2)).mono (fun e w6 ⟨u, he, h⟩ => ⟨_, he, h⟩)

theorem toObs_at : ∀ (l : List Im.Ob) (last i : Nat), (Im.toObs last l)[i]? = (l[i]?).map fun o => (o.ser - (match i with | 0 => last | k + 1 => ((l[k]?).map (·.ser)).getD 0), o.kind.toNat, o.site.toNat, o.ps.map Int.toNat, o.rs) := by
  intro l
  induction l with
  | nil => intro last i; simp [Im.toObs]
  | cons o r ih =>
    intro last i
    match i with
    | 0 => simp [Im.toObs]
    | 1 => simp [Im.toObs, ih o.ser 0]
    | k + 2 => simp [Im.toObs, ih o.ser (k + 1)]

theorem parts1_any (w : World) (c b i n cap : Nat) (a : Option Addr) (hc : w.cell? ⟨c, 0, none⟩ = some (.pointer (some ⟨b, 0, none⟩))) (hb : w.cell? ⟨b, 0, none⟩ = some (.slice a n cap)) (Post : World → Value → Prop)
    (hC : Calls Tryd.prog 62 #[.slice a n cap, .int .i64 (i : Int)] w fun e w' => ∃ u, e = .returned u ∧ Post w' u) :
    Calls Tryd.prog 61 #[.int .i64 (i : Int), .pointer (some ⟨c, 0, none⟩)] w fun e w' => ∃ u, e = .returned u ∧ Post w' u := by
  go_enter Tryd.func61, Tryd.ntmps61
  go_wp2_with fail
  refine hC.mono ?_
  rintro e w2 ⟨u, rfl, hP⟩
  have HP : Hid (Post w2 u) := hP
  clear hC hP
  go_wp2
  go_ret
  exact ⟨_, rfl, HP.out⟩

theorem objects_pt {n0 : Nat} {w : World} {R Q c b cap c2 G : Nat} {a : Option Addr} {os : List OL} {ts : List (Value × List (Value × List Int))} {g : Im.Gr} (hw : n0 ≤ w.heap.size) (hR : n0 ≤ R) (hQ : n0 ≤ Q) (hcs : c < w.heap.size) (hcR : c ≠ R) (hcQ : c ≠ Q) (hc : w.cell? ⟨c, 0, none⟩ = some (.pointer (some ⟨b, 0, none⟩))) (hb : b < n0)
    (hcell : w.cell? ⟨b, 0, none⟩ = some (.slice a os.length cap)) (hv : Ord n0 w (.slice a os.length cap) os) (hW : Wc os ts g) :
    PtC (Im.listE Im.roE (Im.toObs 0 (os.map (·.o)))) (.iface 99 (.agg #[.int .i64 (os.length : Int), .func (.func 61) #[] #[.pointer (some ⟨c, 0, none⟩)], .func (.func G) #[] #[.pointer (some ⟨c2, 0, none⟩)]])) R w Q := by
  have e1 : Im.listE Im.roE (Im.toObs 0 (os.map (·.o))) = Im.num ((Im.toObs 0 (os.map (·.o))).map Im.roE).length ++ ((Im.toObs 0 (os.map (·.o))).map Im.roE).flatten := by simp [Im.listE, List.flatMap]
  rw [e1, show (os.length : Int) = (((Im.toObs 0 (os.map (·.o))).map Im.roE).length : Int) by simp [Im.toObs_length]]
  refine pt_list (by simpa [Im.toObs_length] using hW.n) parts1_enters (fun i l hl w5 Q5 k5 hR5 hQ5s => ?_)
  rw [List.getElem?_map, toObs_at, List.getElem?_map, Option.map_map, Option.map_map, Option.map_eq_some_iff] at hl
  obtain ⟨x, hxi, hl⟩ := hl
  have hil := (List.getElem?_eq_some_iff.1 hxi).1
  have e2 : l = Im.roE (x.o.ser - lastOf os i, x.o.kind.toNat, x.o.site.toNat, x.o.ps.map Int.toNat, x.o.rs) := by
    rw [← hl]
    match i with
    | 0 => rfl
    | k + 1 => simp [lastOf, Function.comp_def, List.getElem?_map]
  obtain ⟨bl, hQ5⟩ := k5.low (n0 := n0) hw hR hQ
  have h := hW.o i x hxi
  rw [e2]
  exact (parts1_any w5 c b i os.length cap a ((k5.cell hcs hcR hcQ).trans hc) ((bl.cell (p := ⟨b, 0, none⟩) hb).trans hcell) (fun w' u => Below w5.heap.size w5 w' ∧ PtC (Im.roE (x.o.ser - lastOf os i, x.o.kind.toNat, x.o.site.toNat, x.o.ps.map Int.toNat, x.o.rs)) u R w' Q5)
    (object_any hR hQ5 hR5 hQ5s (hv.below bl) hxi hW.n h.1 h.2.1 h.2.2.1 h.2.2.2.1 h.2.2.2.2.1 h.2.2.2.2.2.1 h.2.2.2.2.2.2.1 h.2.2.2.2.2.2.2)).mono (fun e w6 h => h)

end Go.Proofs.YtblbiikfipcbcaaDoor

/-
  Images, the writer: all that is written of a graph.
-/
set_option linter.unusedVariables false
set_option maxRecDepth 20000
namespace Go.Proofs.YtblbiikfipcbcaaDoor
open Go.RowKit Go.Shelf

set_option maxHeartbeats 8000000 in
/-- All parts of a graph whose cells lie in block B. -/
theorem parts_any {n0 : Nat} {w : World} {R Q B : Nat} {vo vs vh vr vq : Value} {os : List OL} {ts : List (Value × List (Value × List Int))} {g : Im.Gr} (hR : n0 ≤ R) (hQ : n0 ≤ Q) (hRs : R < w.heap.size) (hQs : Q < w.heap.size) (hB : B < n0) (hc : ∀ j, j < 6 → w.cell? ⟨B, j, none⟩ = (gcs vo vs vh vr vq g.next)[j]?)
    (hg : Grd n0 w vo vs vh vr vq os ts g) (hW : Wc os ts g) :
    Calls Tryd.prog 27 #[.pointer (some ⟨B, 0, none⟩)] w fun e w' => ∃ u, e = .returned u ∧ Below w.heap.size w w' ∧ PtC (Im.ngE (Im.toNG g)) u R w' Q := by
  obtain ⟨ao, co, eo, -⟩ := hg.ob
  obtain ⟨aS, cs, es, -⟩ := hg.sl
  obtain ⟨ah, ch, eh, -, -⟩ := hg.hs
  obtain ⟨aq, cq, eq, -, -⟩ := hg.qu
  subst eo es eh eq
  have Hg : Hid (Grd n0 w (.slice ao os.length co) (.slice aS ts.length cs) (.slice ah g.hs.length ch) vr (.slice aq g.qu.length cq) os ts g) := hg
  have HW : Hid (Wc os ts g) := hW
  have Hc : Hid (∀ j, j < 6 → w.cell? ⟨B, j, none⟩ = (gcs (.slice ao os.length co) (.slice aS ts.length cs) (.slice ah g.hs.length ch) vr (.slice aq g.qu.length cq) g.next)[j]?) := hc
  have hnx := hg.nx
  clear hg hW hc
  have b5 : Below w.heap.size w (w.alloc (.cells #[.pointer (some ⟨B, 0, none⟩)] 69)) := Below.alloc (Below.refl _ _) (Nat.le_refl _) _
  have h5 := (Kg.heap_cell (heap_alloc_new w (.cells #[.pointer (some ⟨B, 0, none⟩)] 69 (0, 0))) 0).trans (show _ = some (.pointer (some ⟨B, 0, none⟩)) from rfl)
  have s5 : (w.alloc (.cells #[.pointer (some ⟨B, 0, none⟩)] 69)).heap.size = w.heap.size + 1 := by simp
  go_enter Tryd.func27, Tryd.ntmps27
  go_upto_region 1 with fail
  have HB5 : Hid (Below w.heap.size w (w.alloc (.cells #[.pointer (some ⟨B, 0, none⟩)] 69))) := b5
  generalize w.alloc (.cells #[.pointer (some ⟨B, 0, none⟩)] 69) = W at *
  have Hh5 : Hid (W.cell? ⟨w.heap.size, 0, none⟩ = some (.pointer (some ⟨B, 0, none⟩))) := h5
  have HX : Hid (∀ w', Below W.heap.size W w' → Below w.heap.size w w' ∧ B < w'.heap.size ∧ R < w'.heap.size ∧ Q < w'.heap.size ∧ (∀ j, j < 6 → w'.cell? ⟨B, j, none⟩ = (gcs (.slice ao os.length co) (.slice aS ts.length cs) (.slice ah g.hs.length ch) vr (.slice aq g.qu.length cq) g.next)[j]?) ∧ Grd n0 w' (.slice ao os.length co) (.slice aS ts.length cs) (.slice ah g.hs.length ch) vr (.slice aq g.qu.length cq) os ts g) := fun w' b' => by
    have b0 := HB5.out.trans (b'.mono HB5.out.size)
    have hs0 := b0.size
    exact ⟨b0, by omega, by omega, by omega, fun j hj => (b0.cell (p := ⟨B, j, none⟩) (by show B < w.heap.size; omega)).trans (Hc.out j hj), Hg.out.below (b0.mono (by omega))⟩
  have HN : Hid (∀ w', Below W.heap.size W w' → Calls Tryd.prog 68 #[.pointer (some ⟨B, 4, none⟩)] w' fun e w'' => ∃ u, e = .returned (.iface 99 u) ∧ Below w'.heap.size w' w'' ∧ PtC (Im.listE Im.num (g.qu.map Int.toNat)) (.iface 99 u) R w'' Q) := fun w' b' => by
    obtain ⟨b0, h1, h2, h3, h4, h6⟩ := HX.out w' b'
    refine numbers_any hR hQ h2 h3 hB ((h4 4 (by decide)).trans rfl) ?_ (by simpa using HW.out.ql) (fun y hy => ?_)
    · rw [show (g.qu.map Int.toNat).map Int.ofNat = g.qu from Im.map_ofNat_toNat (fun z hz => (HW.out.q z hz).1)]
      exact h6.qu
    · obtain ⟨z, hz, rfl⟩ := List.mem_map.1 hy
      have := HW.out.q z hz
      omega
  have HO : Hid (∀ w', Below W.heap.size W w' → Calls Tryd.prog 60 #[.pointer (some ⟨B, 0, none⟩), .func (.func 61) #[] #[.pointer (some ⟨w.heap.size, 0, none⟩)]] w' fun e w'' => ∃ c2, e = .returned (.iface 99 (.agg #[.int .i64 (os.length : Int), .func (.func 61) #[] #[.pointer (some ⟨w.heap.size, 0, none⟩)], .func (.func 88) #[] #[.pointer (some ⟨c2, 0, none⟩)]])) ∧ Below w'.heap.size w' w'') := fun w' b' => by
    obtain ⟨b0, h1, h2, h3, h4, h6⟩ := HX.out w' b'
    exact listO_any w' B 0 61 w.heap.size os.length co ao h1 ((h4 0 (by decide)).trans rfl)
  have HFr : Hid (∀ w', Below W.heap.size W w' → Calls Tryd.prog 63 #[.pointer (some ⟨B, 1, none⟩), .func (.func 64) #[] #[.pointer (some ⟨w.heap.size, 0, none⟩)]] w' fun e w'' => ∃ c2, e = .returned (.iface 99 (.agg #[.int .i64 (ts.length : Int), .func (.func 64) #[] #[.pointer (some ⟨w.heap.size, 0, none⟩)], .func (.func 91) #[] #[.pointer (some ⟨c2, 0, none⟩)]])) ∧ Below w'.heap.size w' w'') := fun w' b' => by
    obtain ⟨b0, h1, h2, h3, h4, h6⟩ := HX.out w' b'
    exact listF_any w' B 1 64 w.heap.size ts.length cs aS h1 ((h4 1 (by decide)).trans rfl)
  have HI : Hid (∀ w', Below W.heap.size W w' → Calls Tryd.prog 66 #[.pointer (some ⟨B, 2, none⟩), .func (.func 67) #[] #[.pointer (some ⟨w.heap.size, 0, none⟩)]] w' fun e w'' => ∃ c2, e = .returned (.iface 99 (.agg #[.int .i64 (g.hs.length : Int), .func (.func 67) #[] #[.pointer (some ⟨w.heap.size, 0, none⟩)], .func (.func 94) #[] #[.pointer (some ⟨c2, 0, none⟩)]])) ∧ Below w'.heap.size w' w'') := fun w' b' => by
    obtain ⟨b0, h1, h2, h3, h4, h6⟩ := HX.out w' b'
    exact listI_any w' B 2 67 w.heap.size g.hs.length ch ah h1 ((h4 2 (by decide)).trans rfl)
  clear b5 h5
  refine wp_region_held_drew (S := (fun w' => w'.cell? ⟨w.heap.size, 0, none⟩ = some (.pointer (some ⟨B, 0, none⟩)))) Kg.mixed Hh5.out (fun hHeld => ?_)
  refine wpAnyH_take (i := 0) (v := (.pointer (some ⟨B, 0, none⟩))) rfl (by kernel_rfl) (by kernel_rfl) (by kernel_rfl) (fun _ _ _ h => h) (Or.inl ⟨by rfl, fun wx hSw => ?_⟩) (by assumption) ?_
  · go_simp
  change wpAnyH _ _ _ _ _ _ _ (Act.put _ (some 3) (.pointer (some ⟨B, 0, none⟩))) _
  simp only [Act.put, List.setIfInBounds_toArray, List.set_cons_zero, List.set_cons_succ]
  refine wpAnyH_take (i := 1) (v := (.pointer (some ⟨B, 0, none⟩))) rfl (by kernel_rfl) (by kernel_rfl) (by kernel_rfl) (fun _ _ _ h => h) (Or.inl ⟨by rfl, fun wx hSw => ?_⟩) (by assumption) ?_
  · go_simp
  change wpAnyH _ _ _ _ _ _ _ (Act.put _ (some 4) (.pointer (some ⟨B, 0, none⟩))) _
  simp only [Act.put, List.setIfInBounds_toArray, List.set_cons_zero, List.set_cons_succ]
  refine wpAnyH_take (i := 2) (v := (.pointer (some ⟨B, 5, none⟩))) rfl (by kernel_rfl) (by kernel_rfl) (by kernel_rfl) (fun _ _ _ h => h) (Or.inl ⟨by rfl, fun wx hSw => ?_⟩) (by assumption) ?_
  · go_simp
  change wpAnyH _ _ _ _ _ _ _ (Act.put _ (some 5) (.pointer (some ⟨B, 5, none⟩))) _
  simp only [Act.put, List.setIfInBounds_toArray, List.set_cons_zero, List.set_cons_succ]
  refine wpAnyH_take (i := 3) (v := (.agg #[.pointer (some ⟨B, 5, none⟩), .int .u64 ((0 : Nat) : Int)])) rfl (by kernel_rfl) (by kernel_rfl) (by kernel_rfl) (fun _ _ _ h => h) (Or.inl ⟨by rfl, fun wx hSw => ?_⟩) (by assumption) ?_
  · go_simp
  change wpAnyH _ _ _ _ _ _ _ (Act.put _ (some 6) (.agg #[.pointer (some ⟨B, 5, none⟩), .int .u64 ((0 : Nat) : Int)])) _
  simp only [Act.put, List.setIfInBounds_toArray, List.set_cons_zero, List.set_cons_succ]
  refine wpAnyH_take (i := 4) (v := (.iface 96 (.agg #[.pointer (some ⟨B, 5, none⟩), .int .u64 ((0 : Nat) : Int)]))) rfl (by kernel_rfl) (by kernel_rfl) (by kernel_rfl) (fun _ _ _ h => h) (Or.inl ⟨by rfl, fun wx hSw => ?_⟩) (by assumption) ?_
  · go_simp
  change wpAnyH _ _ _ _ _ _ _ (Act.put _ (some 7) (.iface 96 (.agg #[.pointer (some ⟨B, 5, none⟩), .int .u64 ((0 : Nat) : Int)]))) _
  simp only [Act.put, List.setIfInBounds_toArray, List.set_cons_zero, List.set_cons_succ]
  refine wpAnyH_take (i := 5) (v := (.pointer (some ⟨B, 0, none⟩))) rfl (by kernel_rfl) (by kernel_rfl) (by kernel_rfl) (fun _ _ _ h => h) (Or.inl ⟨by rfl, fun wx hSw => ?_⟩) (by assumption) ?_
  · go_simp
  change wpAnyH _ _ _ _ _ _ _ (Act.put _ (some 8) (.pointer (some ⟨B, 0, none⟩))) _
  simp only [Act.put, List.setIfInBounds_toArray, List.set_cons_zero, List.set_cons_succ]
  refine wpAnyH_take (i := 6) (v := (.pointer (some ⟨B, 0, none⟩))) rfl (by kernel_rfl) (by kernel_rfl) (by kernel_rfl) (fun _ _ _ h => h) (Or.inl ⟨by rfl, fun wx hSw => ?_⟩) (by assumption) ?_
  · go_simp
  change wpAnyH _ _ _ _ _ _ _ (Act.put _ (some 9) (.pointer (some ⟨B, 0, none⟩))) _
  simp only [Act.put, List.setIfInBounds_toArray, List.set_cons_zero, List.set_cons_succ]
  refine wpAnyH_take (i := 7) (v := (.pointer (some ⟨B, 0, none⟩))) rfl (by kernel_rfl) (by kernel_rfl) (by kernel_rfl) (fun _ _ _ h => h) (Or.inl ⟨by rfl, fun wx hSw => ?_⟩) (by assumption) ?_
  · go_simp
  change wpAnyH _ _ _ _ _ _ _ (Act.put _ (some 10) (.pointer (some ⟨B, 0, none⟩))) _
  simp only [Act.put, List.setIfInBounds_toArray, List.set_cons_zero, List.set_cons_succ]
  refine wpAnyH_take (i := 8) (v := (.func (.func 61) #[] #[.pointer (some ⟨w.heap.size, 0, none⟩)])) rfl (by kernel_rfl) (by kernel_rfl) (by kernel_rfl) (fun _ _ _ h => h) (Or.inl ⟨by rfl, fun wx hSw => ?_⟩) (by assumption) ?_
  · go_simp
  change wpAnyH _ _ _ _ _ _ _ (Act.put _ (some 11) (.func (.func 61) #[] #[.pointer (some ⟨w.heap.size, 0, none⟩)])) _
  simp only [Act.put, List.setIfInBounds_toArray, List.set_cons_zero, List.set_cons_succ]
  refine wpAnyH_take (i := 10) (v := (.pointer (some ⟨B, 0, none⟩))) rfl (by kernel_rfl) (by kernel_rfl) (by kernel_rfl) (fun _ _ _ h => h) (Or.inl ⟨by rfl, fun wx hSw => ?_⟩) (by assumption) ?_
  · go_simp
  change wpAnyH _ _ _ _ _ _ _ (Act.put _ (some 13) (.pointer (some ⟨B, 0, none⟩))) _
  simp only [Act.put, List.setIfInBounds_toArray, List.set_cons_zero, List.set_cons_succ]
  refine wpAnyH_take (i := 11) (v := (.pointer (some ⟨B, 0, none⟩))) rfl (by kernel_rfl) (by kernel_rfl) (by kernel_rfl) (fun _ _ _ h => h) (Or.inl ⟨by rfl, fun wx hSw => ?_⟩) (by assumption) ?_
  · go_simp
  change wpAnyH _ _ _ _ _ _ _ (Act.put _ (some 14) (.pointer (some ⟨B, 0, none⟩))) _
  simp only [Act.put, List.setIfInBounds_toArray, List.set_cons_zero, List.set_cons_succ]
  refine wpAnyH_take (i := 12) (v := (.pointer (some ⟨B, 1, none⟩))) rfl (by kernel_rfl) (by kernel_rfl) (by kernel_rfl) (fun _ _ _ h => h) (Or.inl ⟨by rfl, fun wx hSw => ?_⟩) (by assumption) ?_
  · go_simp
  change wpAnyH _ _ _ _ _ _ _ (Act.put _ (some 15) (.pointer (some ⟨B, 1, none⟩))) _
  simp only [Act.put, List.setIfInBounds_toArray, List.set_cons_zero, List.set_cons_succ]
  refine wpAnyH_take (i := 13) (v := (.func (.func 64) #[] #[.pointer (some ⟨w.heap.size, 0, none⟩)])) rfl (by kernel_rfl) (by kernel_rfl) (by kernel_rfl) (fun _ _ _ h => h) (Or.inl ⟨by rfl, fun wx hSw => ?_⟩) (by assumption) ?_
  · go_simp
  change wpAnyH _ _ _ _ _ _ _ (Act.put _ (some 16) (.func (.func 64) #[] #[.pointer (some ⟨w.heap.size, 0, none⟩)])) _
  simp only [Act.put, List.setIfInBounds_toArray, List.set_cons_zero, List.set_cons_succ]
  refine wpAnyH_take (i := 15) (v := (.pointer (some ⟨B, 0, none⟩))) rfl (by kernel_rfl) (by kernel_rfl) (by kernel_rfl) (fun _ _ _ h => h) (Or.inl ⟨by rfl, fun wx hSw => ?_⟩) (by assumption) ?_
  · go_simp
  change wpAnyH _ _ _ _ _ _ _ (Act.put _ (some 18) (.pointer (some ⟨B, 0, none⟩))) _
  simp only [Act.put, List.setIfInBounds_toArray, List.set_cons_zero, List.set_cons_succ]
  refine wpAnyH_take (i := 16) (v := (.pointer (some ⟨B, 0, none⟩))) rfl (by kernel_rfl) (by kernel_rfl) (by kernel_rfl) (fun _ _ _ h => h) (Or.inl ⟨by rfl, fun wx hSw => ?_⟩) (by assumption) ?_
  · go_simp
  change wpAnyH _ _ _ _ _ _ _ (Act.put _ (some 19) (.pointer (some ⟨B, 0, none⟩))) _
  simp only [Act.put, List.setIfInBounds_toArray, List.set_cons_zero, List.set_cons_succ]
  refine wpAnyH_take (i := 17) (v := (.pointer (some ⟨B, 2, none⟩))) rfl (by kernel_rfl) (by kernel_rfl) (by kernel_rfl) (fun _ _ _ h => h) (Or.inl ⟨by rfl, fun wx hSw => ?_⟩) (by assumption) ?_
  · go_simp
  change wpAnyH _ _ _ _ _ _ _ (Act.put _ (some 20) (.pointer (some ⟨B, 2, none⟩))) _
  simp only [Act.put, List.setIfInBounds_toArray, List.set_cons_zero, List.set_cons_succ]
  refine wpAnyH_take (i := 18) (v := (.func (.func 67) #[] #[.pointer (some ⟨w.heap.size, 0, none⟩)])) rfl (by kernel_rfl) (by kernel_rfl) (by kernel_rfl) (fun _ _ _ h => h) (Or.inl ⟨by rfl, fun wx hSw => ?_⟩) (by assumption) ?_
  · go_simp
  change wpAnyH _ _ _ _ _ _ _ (Act.put _ (some 21) (.func (.func 67) #[] #[.pointer (some ⟨w.heap.size, 0, none⟩)])) _
  simp only [Act.put, List.setIfInBounds_toArray, List.set_cons_zero, List.set_cons_succ]
  refine wpAnyH_take (i := 20) (v := (.pointer (some ⟨B, 0, none⟩))) rfl (by kernel_rfl) (by kernel_rfl) (by kernel_rfl) (fun _ _ _ h => h) (Or.inl ⟨by rfl, fun wx hSw => ?_⟩) (by assumption) ?_
  · go_simp
  change wpAnyH _ _ _ _ _ _ _ (Act.put _ (some 23) (.pointer (some ⟨B, 0, none⟩))) _
  simp only [Act.put, List.setIfInBounds_toArray, List.set_cons_zero, List.set_cons_succ]
  refine wpAnyH_take (i := 21) (v := (.pointer (some ⟨B, 0, none⟩))) rfl (by kernel_rfl) (by kernel_rfl) (by kernel_rfl) (fun _ _ _ h => h) (Or.inl ⟨by rfl, fun wx hSw => ?_⟩) (by assumption) ?_
  · go_simp
  change wpAnyH _ _ _ _ _ _ _ (Act.put _ (some 24) (.pointer (some ⟨B, 0, none⟩))) _
  simp only [Act.put, List.setIfInBounds_toArray, List.set_cons_zero, List.set_cons_succ]
  refine wpAnyH_take (i := 22) (v := (.pointer (some ⟨B, 4, none⟩))) rfl (by kernel_rfl) (by kernel_rfl) (by kernel_rfl) (fun _ _ _ h => h) (Or.inl ⟨by rfl, fun wx hSw => ?_⟩) (by assumption) ?_
  · go_simp
  change wpAnyH _ _ _ _ _ _ _ (Act.put _ (some 25) (.pointer (some ⟨B, 4, none⟩))) _
  simp only [Act.put, List.setIfInBounds_toArray, List.set_cons_zero, List.set_cons_succ]
  have hB0 : Below W.heap.size W W.drew := Below.drew (Below.refl _ _)
  have h50 := Hh5.out
  refine wpAnyH_ready (rs := [9]) (by kernel_rfl) (by simp) (AllReadyH.cons rfl (fun K hK => ?_) AllReadyH.nil)
  go_simp
  refine (HO.out _ hB0).mono ?_
  rintro e w1 ⟨c1, rfl, b1⟩
  have h51 := (b1.cell (p := ⟨w.heap.size, 0, none⟩) (by show w.heap.size < W.drew.heap.size; simp; omega)).trans Hh5.out
  have hB1 := hB0.trans (b1.mono hB0.size)
  refine hK.out _ _ h51 (fun hHeld1 => ?_)
  clear hK K hHeld
  have hHeld := hHeld1
  clear hHeld1
  refine wpAnyH_ready (rs := [14]) (by kernel_rfl) (by simp) (AllReadyH.cons rfl (fun K hK => ?_) AllReadyH.nil)
  go_simp
  refine (HFr.out _ hB1).mono ?_
  rintro e w2 ⟨c2, rfl, b2⟩
  have h52 := (b2.cell (p := ⟨w.heap.size, 0, none⟩) (by show w.heap.size < w1.heap.size; have := hB1.size; simp at *; omega)).trans h51
  have hB2 := hB1.trans (b2.mono hB1.size)
  refine hK.out _ _ h52 (fun hHeld2 => ?_)
  clear hK K hHeld
  have hHeld := hHeld2
  clear hHeld2
  refine wpAnyH_ready (rs := [19]) (by kernel_rfl) (by simp) (AllReadyH.cons rfl (fun K hK => ?_) AllReadyH.nil)
  go_simp
  refine (HI.out _ hB2).mono ?_
  rintro e w3 ⟨c3, rfl, b3⟩
  have h53 := (b3.cell (p := ⟨w.heap.size, 0, none⟩) (by show w.heap.size < w2.heap.size; have := hB2.size; simp at *; omega)).trans h52
  have hB3 := hB2.trans (b3.mono hB2.size)
  refine hK.out _ _ h53 (fun hHeld3 => ?_)
  clear hK K hHeld
  have hHeld := hHeld3
  clear hHeld3
  refine wpAnyH_ready (rs := [23]) (by kernel_rfl) (by simp) (AllReadyH.cons rfl (fun K hK => ?_) AllReadyH.nil)
  go_simp
  refine (HN.out _ hB3).mono ?_
  rintro e w4 ⟨u, rfl, b4, hu4⟩
  have h54 := (b4.cell (p := ⟨w.heap.size, 0, none⟩) (by show w.heap.size < w3.heap.size; have := hB3.size; simp at *; omega)).trans h53
  have hB4 := hB3.trans (b4.mono hB3.size)
  refine hK.out _ _ h54 (fun hHeld4 => ?_)
  clear hK K hHeld
  have hHeld := hHeld4
  clear hHeld4
  refine wpAnyH_ready (rs := [24]) (by kernel_rfl) (by simp) (AllReadyH.cons rfl (fun K hK => ?_) AllReadyH.nil)
  go_simp
  have b6 : Below w4.heap.size w4 (w4.alloc (.cells #[.iface 96 (.agg #[.pointer (some ⟨B, 5, none⟩), .int .u64 ((0 : Nat) : Int)]), .iface 99 (.agg #[.int .i64 (os.length : Int), .func (.func 61) #[] #[.pointer (some ⟨w.heap.size, 0, none⟩)], .func (.func 88) #[] #[.pointer (some ⟨c1, 0, none⟩)]]), .iface 99 (.agg #[.int .i64 (ts.length : Int), .func (.func 64) #[] #[.pointer (some ⟨w.heap.size, 0, none⟩)], .func (.func 91) #[] #[.pointer (some ⟨c2, 0, none⟩)]]), .iface 99 (.agg #[.int .i64 (g.hs.length : Int), .func (.func 67) #[] #[.pointer (some ⟨w.heap.size, 0, none⟩)], .func (.func 94) #[] #[.pointer (some ⟨c3, 0, none⟩)]]), .iface 99 u] 67)) := Below.alloc (Below.refl _ _) (Nat.le_refl _) _
  have hg6 := heap_alloc_new w4 (.cells #[.iface 96 (.agg #[.pointer (some ⟨B, 5, none⟩), .int .u64 ((0 : Nat) : Int)]), .iface 99 (.agg #[.int .i64 (os.length : Int), .func (.func 61) #[] #[.pointer (some ⟨w.heap.size, 0, none⟩)], .func (.func 88) #[] #[.pointer (some ⟨c1, 0, none⟩)]]), .iface 99 (.agg #[.int .i64 (ts.length : Int), .func (.func 64) #[] #[.pointer (some ⟨w.heap.size, 0, none⟩)], .func (.func 91) #[] #[.pointer (some ⟨c2, 0, none⟩)]]), .iface 99 (.agg #[.int .i64 (g.hs.length : Int), .func (.func 67) #[] #[.pointer (some ⟨w.heap.size, 0, none⟩)], .func (.func 94) #[] #[.pointer (some ⟨c3, 0, none⟩)]]), .iface 99 u] 67 (0, 0))
  have h56 := (b6.cell (p := ⟨w.heap.size, 0, none⟩) (by show w.heap.size < w4.heap.size; have := hB4.size; omega)).trans h54
  refine hK.out _ _ h56 (fun hHeld25 => ?_)
  clear hK K hHeld
  have hHeld := hHeld25
  clear hHeld25
  generalize w4.alloc (.cells #[.iface 96 (.agg #[.pointer (some ⟨B, 5, none⟩), .int .u64 ((0 : Nat) : Int)]), .iface 99 (.agg #[.int .i64 (os.length : Int), .func (.func 61) #[] #[.pointer (some ⟨w.heap.size, 0, none⟩)], .func (.func 88) #[] #[.pointer (some ⟨c1, 0, none⟩)]]), .iface 99 (.agg #[.int .i64 (ts.length : Int), .func (.func 64) #[] #[.pointer (some ⟨w.heap.size, 0, none⟩)], .func (.func 91) #[] #[.pointer (some ⟨c2, 0, none⟩)]]), .iface 99 (.agg #[.int .i64 (g.hs.length : Int), .func (.func 67) #[] #[.pointer (some ⟨w.heap.size, 0, none⟩)], .func (.func 94) #[] #[.pointer (some ⟨c3, 0, none⟩)]]), .iface 99 u] 67) = w6 at *
  refine wpAnyH_take (i := 25) (v := (.iface 101 (.slice (some ⟨w4.heap.size, 0, none⟩) 5 5))) rfl (by kernel_rfl) (by kernel_rfl) (by kernel_rfl) (fun _ _ _ h => h) (Or.inl ⟨by rfl, fun wx hSw => ?_⟩) (by assumption) ?_
  · go_simp
  change wpAnyH _ _ _ _ _ _ _ (Act.put _ (some 28) (.iface 101 (.slice (some ⟨w4.heap.size, 0, none⟩) 5 5))) _
  simp only [Act.put, List.setIfInBounds_toArray, List.set_cons_zero, List.set_cons_succ]
  refine wpAnyH_take (i := 26) (v := (.iface 101 (.slice (some ⟨w4.heap.size, 0, none⟩) 5 5))) rfl (by kernel_rfl) (by kernel_rfl) (by kernel_rfl) (fun _ _ _ h => h) (Or.inl ⟨by rfl, fun wx hSw => ?_⟩) (by assumption) ?_
  · go_simp
  change wpAnyH _ _ _ _ _ _ _ (Act.put _ (some 2) (.iface 101 (.slice (some ⟨w4.heap.size, 0, none⟩) 5 5))) _
  simp only [Act.put, List.setIfInBounds_toArray, List.set_cons_zero, List.set_cons_succ]
  refine wpAnyH_done (by kernel_rfl) ?_ _
  have HF : Hid (Below w.heap.size w w6 ∧ PtC (Im.ngE (Im.toNG g)) (.iface 101 (.slice (some ⟨w4.heap.size, 0, none⟩) 5 5)) R w6 Q) := by
    have hB6 := hB4.trans (b6.mono hB4.size)
    obtain ⟨q1, q2, q3, q4, q5, q6⟩ := HX.out w6 hB6
    have hsz := b6.size
    have hsz4 := hB4.size
    have hsb : n0 ≤ w6.heap.size := by omega
    have hW := HW.out
    refine ⟨q1, ?_⟩
    have e0 : Im.ngE (Im.toNG g) = Im.num (g.next - 0) ++ (Im.listE Im.roE (Im.toObs 0 (os.map (·.o))) ++ (Im.listE (Im.listE (Im.listE Im.num)) (ts.map fun t => t.2.map fun f => f.2.map Int.toNat) ++ (Im.listE Im.num (g.hs.map fun z => (z + 1).toNat) ++ Im.listE Im.num (g.qu.map Int.toNat)))) := by
      simp only [Im.ngE, Im.toNG, q6.eo, q6.es, List.map_map, Nat.sub_zero, Function.comp_def]
    rw [e0]
    exact pt_five (Kg.heap_lt hg6) (by omega) (by omega) hg6 (pt_serial (by omega) (by omega) (by omega) ((q5 5 (by decide)).trans rfl) (Nat.zero_le _) hnx)
      (objects_pt hsb hR hQ (by omega) (by omega) (by omega) h56 hB ((q5 0 (by decide)).trans rfl) q6.ob hW) (slots_pt hsb hR hQ (by omega) (by omega) (by omega) h56 hB ((q5 1 (by decide)).trans rfl) q6.sl hW.t hW.tl)
      (handles_pt hsb hR hQ (by omega) (by omega) (by omega) h56 hB ((q5 2 (by decide)).trans rfl) q6.hs hW.hl hW.h) (hu4.keep (Kp.below b6))
  clear hHeld hg6 b6 h56 h54 hu4 hB4 h51 h52 h53 hB1 hB2 hB3 b1 b2 b3 b4
  go_wp2
  go_ret
  exact ⟨_, rfl, HF.out.1, HF.out.2⟩

end Go.Proofs.YtblbiikfipcbcaaDoor

