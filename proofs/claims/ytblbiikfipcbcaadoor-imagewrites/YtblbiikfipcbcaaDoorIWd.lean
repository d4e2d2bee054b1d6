/-
  Images: the document's Write.
-/
import Derived.Test.YtblbiikfipcbcaaDoorIWb
import Derived.Test.YtblbiikfipcbcaaDoorIWc
set_option linter.unusedVariables false
set_option maxRecDepth 20000
namespace Go.Proofs.YtblbiikfipcbcaaDoor
open Go.RowKit Go.Shelf

theorem flatM_snoc {α : Type} (f : α → List Nat) {l : List α} {k : Nat} {x : α} (h : l[k]? = some x) : (l.take (k + 1)).flatMap f = (l.take k).flatMap f ++ f x := by
  rw [List.take_add_one, h]
  simp

/-- How the objects stand in numbers. -/
abbrev rOs (os : List OL) : List Im.RO := Im.toObs 0 (os.map (·.o))
theorem rOs_at {os : List OL} {i : Nat} {x : OL} (h : os[i]? = some x) : (rOs os)[i]? = some (x.o.ser - lastOf os i, x.o.kind.toNat, x.o.site.toNat, x.o.ps.map Int.toNat, x.o.rs) := by
  rw [toObs_at, List.getElem?_map, h]
  match i with
  | 0 => rfl
  | k + 1 => simp [lastOf, List.getElem?_map, Function.comp_def]
theorem rOs_len (os : List OL) : (rOs os).length = os.length := by rw [Im.toObs_length, List.length_map]
theorem lastOf_succ {os : List OL} {i : Nat} {x : OL} (h : os[i]? = some x) : lastOf os (i + 1) = x.o.ser := by simp [lastOf, h]

/-- How the slots stand in numbers. -/
abbrev fN (t : Value × List (Value × List Int)) : List (List Nat) := t.2.map fun f => f.2.map Int.toNat
abbrev sN (ts : List (Value × List (Value × List Int))) : List (List (List Nat)) := ts.map fN
theorem sN_at {ts : List (Value × List (Value × List Int))} {i : Nat} {t : Value × List (Value × List Int)} (h : ts[i]? = some t) : (sN ts)[i]? = some (fN t) := by rw [List.getElem?_map, h]; rfl
theorem fN_at {t : Value × List (Value × List Int)} {i : Nat} {f : Value × List Int} (h : t.2[i]? = some f) : (fN t)[i]? = some (f.2.map Int.toNat) := by rw [List.getElem?_map, h]; rfl

theorem listE_def {α : Type} (e : α → List Nat) (l : List α) : Im.listE e l = Im.num l.length ++ l.flatMap e := rfl

theorem le4_at (S k : Nat) (h : k < 4) : (Im.le4 S).take (k + 1) = (Im.le4 S).take k ++ [S / 256 ^ k % 256] := by
  match k, h with
  | 0, _ => simp [Im.le4]
  | 1, _ => simp [Im.le4]
  | 2, _ => simp [Im.le4]
  | 3, _ => simp [Im.le4]

theorem len10 {cs : List Nat} {n B : Nat} (h : cs.length ≤ B) (hn : n < 18446744073709551616) : (cs ++ Im.num n).length ≤ B + 10 := by
  have := num_le n hn
  rw [List.length_append]
  omega
theorem lenE {cs l : List Nat} {B : Nat} (h : cs.length ≤ B) (hl : l.length ≤ 16384) (hn : ∀ x, x ∈ l → x < 18446744073709551616) : (cs ++ Im.listE Im.num l).length ≤ B + 163850 := by
  have := listE_le Im.num 10 16384 l (fun x hx => num_le x (hn x hx)) hl (by omega)
  rw [List.length_append]
  omega
theorem lenF {cs l : List Nat} {B : Nat} (h : cs.length ≤ B) (hl : l.length ≤ 16384) (hn : ∀ x, x ∈ l → x < 18446744073709551616) : (cs ++ l.flatMap Im.num).length ≤ B + 163840 := by
  have h2 := flat_le Im.num 10 l (fun x hx => num_le x (hn x hx))
  rw [List.length_append]
  omega
theorem add0 (l : List Int) : (l.map fun z => (z + 0).toNat) = l.map Int.toNat := by simp

set_option maxHeartbeats 16000000 in
theorem rWrite_any (n0 : Nat) (w : World) (hn : n0 ≤ w.heap.size) (vo vs vh vr vq : Value) (os : List OL) (ts : List (Value × List (Value × List Int))) (g : Im.Gr) (hg : Grd n0 w vo vs vh vr vq os ts g) (hz : gsz os ts g ≤ 16384) (hr : ∀ x, x ∈ os → obR x.o) :
    Calls Tryd.prog 20 #[.agg (gcs vo vs vh vr vq g.next)] w fun e w' => ∃ v r, e = .returned (.tuple #[v, .int .i64 r]) ∧ Below w.heap.size w w' ∧ Wrote w w' g v r := by
  obtain ⟨i0, hi0, hj0, hj1, hj2⟩ := info_parts infoU8
  have HI : Hid (Tryd.prog.info? 5 = some i0 ∧ i0.zero = some (.int .u8 0) ∧ i0.size = 1 ∧ i0.bytes = 1) := ⟨hi0, hj0, hj1, hj2⟩
  clear hi0 hj0 hj1 hj2
  have l1 : Below w.heap.size w (w.alloc (.cells (gcs vo vs vh vr vq g.next) 29)) := Below.alloc (Below.refl _ _) (Nat.le_refl _) _
  have hx := heap_alloc_new w (.cells (gcs vo vs vh vr vq g.next) 29 (0, 0))
  have hws : (w.alloc (.cells (gcs vo vs vh vr vq g.next) 29)).heap.size = w.heap.size + 1 := by simp
  obtain ⟨aa, ac, ea, -⟩ := hg.ob
  obtain ⟨ba, bc, eb, -⟩ := hg.sl
  obtain ⟨ca, cc, ec, -, -⟩ := hg.hs
  obtain ⟨da, dc, ed, -, -⟩ := hg.rg
  obtain ⟨qa, qc, eq, -, -⟩ := hg.qu
  subst ea eb ec ed eq
  generalize hW : w.alloc (.cells (gcs (.slice aa os.length ac) (.slice ba ts.length bc) (.slice ca g.hs.length cc) (.slice da g.rg.length dc) (.slice qa g.qu.length qc) g.next) 29) = W at *
  have HX : Hid (∀ w', Below W.heap.size W w' → Below w.heap.size w w' ∧ (∀ j, w'.cell? ⟨w.heap.size, j, none⟩ = (gcs (.slice aa os.length ac) (.slice ba ts.length bc) (.slice ca g.hs.length cc) (.slice da g.rg.length dc) (.slice qa g.qu.length qc) g.next)[j]?) ∧ Grd n0 w' (.slice aa os.length ac) (.slice ba ts.length bc) (.slice ca g.hs.length cc) (.slice da g.rg.length dc) (.slice qa g.qu.length qc) os ts g) := fun w' b' => ⟨l1.trans (b'.mono l1.size), fun j => (b'.cell (p := ⟨w.heap.size, j, none⟩) (by show w.heap.size < W.heap.size; omega)).trans (Kg.heap_cell hx j), hg.below ((l1.trans (b'.mono l1.size)).mono hn)⟩
  have Hz : Hid (gsz os ts g ≤ 16384) := hz
  have HR : Hid (∀ x, x ∈ os → obR x.o) := hr
  have Hg0 : Hid (Grd n0 w (.slice aa os.length ac) (.slice ba ts.length bc) (.slice ca g.hs.length cc) (.slice da g.rg.length dc) (.slice qa g.qu.length qc) os ts g) := hg
  have k := (HX.out W (Below.refl _ _)).2.1
  have k0 := k 0
  have k1 := k 1
  have k2 := k 2
  have k3 := k 3
  have k4 := k 4
  have k5 := k 5
  simp only [List.getElem?_toArray, List.getElem?_cons_zero, List.getElem?_cons_succ] at k0 k1 k2 k3 k4 k5
  have hC := rCheck_any n0 W _ _ _ _ _ os ts g (HX.out W (Below.refl _ _)).2.2 (by omega) (gln_of hz hg.eo hg.es)
  have hnx := hg.nx
  clear k hg hz hr hx
  go_enter Tryd.func20, Tryd.ntmps20
  go_wp2_with fail
  refine hC.mono ?_
  rintro e w1 ⟨r, rfl, b1, hr1⟩
  have HB1 : Hid (Below W.heap.size W w1) := b1
  clear hC b1 k0 k1 k2 k3 k4 k5
  rcases hr1 with ⟨rfl, hm⟩ | ⟨rfl, hm⟩
  · have Hm : Hid (MB g) := hm
    have HWc : Hid (Wc os ts g) := wc_of Hg0.out Hz.out HR.out hm
    have Hsz : Hid (os.length ≤ 16384 ∧ ts.length ≤ 8 ∧ (∀ x, x ∈ os → x.o.ps.length ≤ 16384 ∧ x.o.rs.length ≤ 16384) ∧ (∀ t, t ∈ ts → t.2.length ≤ 16384 ∧ ∀ f, f ∈ t.2 → f.2.length ≤ 16384) ∧ g.hs.length ≤ 16384 ∧ g.qu.length ≤ 16384) := by
      have ho : ∀ x, x ∈ os → x.o.ps.length + x.o.rs.length ≤ osum os := sum_mem (fun x : OL => x.o.ps.length + x.o.rs.length) os
      have ht : ∀ x, x ∈ ts → x.2.length + fsum (x.2.map (·.2)) ≤ tsum ts := sum_mem (fun x : Value × List (Value × List Int) => x.2.length + fsum (x.2.map (·.2))) ts
      have hf : ∀ (l : List (Value × List Int)) y, y ∈ l → y.2.length ≤ fsum (l.map (·.2)) := fun l y hy => by
        unfold fsum
        rw [List.map_map]
        exact sum_mem (fun y : Value × List Int => y.2.length) l y hy
      have hz := Hz.out
      have ht8 := hm.s.t1
      rw [Hg0.out.es, List.length_map] at ht8
      unfold gsz szs at hz
      exact ⟨by omega, ht8, fun x hx => by have := ho x hx; omega, fun t htm => ⟨by have := ht t htm; omega, fun f hfm => by have := ht t htm; have := hf t.2 f hfm; omega⟩, by omega, by omega⟩
    clear hm
    go_upto_region 4 with fail
    have hB2 : Below w1.heap.size w1 (w1.alloc (.cells #[.int .u8 77, .int .u8 68, .int .u8 73, .int .u8 49] 5)) := Below.alloc (Below.refl _ _) (Nat.le_refl _) _
    have Hb2 : Hid (Bt (w1.alloc (.cells #[.int .u8 77, .int .u8 68, .int .u8 73, .int .u8 49] 5)) W.heap.size (.slice (some ⟨w1.heap.size, 0, none⟩) 4 4) Im.magic) := ⟨by simp [bts, Im.magic], .inr ⟨_, 4, _, rfl, HB1.out.size, heap_alloc_new w1 _, by simp [Im.magic], by simp [maxLen], by simp, by simp [bts, Im.magic]⟩⟩
    have HB2 : Hid (Below W.heap.size W (w1.alloc (.cells #[.int .u8 77, .int .u8 68, .int .u8 73, .int .u8 49] 5))) := HB1.out.trans (hB2.mono HB1.out.size)
    clear hB2
    generalize w1.alloc (.cells #[.int .u8 77, .int .u8 68, .int .u8 73, .int .u8 49] 5) = W2 at *
    have c5 := ((HX.out W2 HB2.out).2.1 5).trans (show _ = some (.int .u64 (g.next : Int)) from rfl)
    have hC := rNumber_any g.next hnx W.heap.size W2 HB2.out.size _ Im.magic Hb2.out (by simp [Im.magic])
    go_wp2_with fail
    refine hC.mono ?_
    rintro e w3 ⟨v3, rfl, p3, h3⟩
    have HB3 : Hid (Below W.heap.size W w3) := HB2.out.trans (p3.below Hb2.out HB2.out.size)
    have H3 : Hid (Bt w3 W.heap.size v3 (Im.magic ++ Im.num g.next)) := h3
    obtain ⟨a3, m3, c3, hv3⟩ := own_slN h3
    subst hv3
    clear hC p3 h3 c5
    have c0 := ((HX.out w3 HB3.out).2.1 0).trans (show _ = some (.slice aa os.length ac) from rfl)
    have hos : os.length ≤ 16384 := Hsz.out.1
    have hC := rNumber_any os.length (by omega) W.heap.size w3 HB3.out.size _ _ H3.out (by have := len10 (cs := Im.magic) (B := 4) (by simp [Im.magic]) hnx; omega)
    go_wp2_with fail
    refine hC.mono ?_
    rintro e w4 ⟨v4, rfl, p4, h4⟩
    have HB4 : Hid (Below W.heap.size W w4) := HB3.out.trans (p4.below H3.out HB3.out.size)
    have H4 : Hid (Bt w4 W.heap.size v4 (Im.magic ++ Im.num g.next ++ Im.num os.length)) := h4
    obtain ⟨a4, m4, c4, hv4⟩ := own_slN h4
    subst hv4
    clear hC p4 h4 c0
    go_wp2
    go_loopw [4, 5, 6] (fun v4 v5 v6 wr => ∃ (i : Nat) (cs : List Nat), i ≤ os.length ∧ v5 = .int .u64 ((lastOf os i : Nat) : Int) ∧ v6 = .int .i64 i ∧ Hid (Bt wr W.heap.size v4 cs) ∧ Hid (cs = Im.magic ++ Im.num g.next ++ Im.num os.length ++ ((rOs os).take i).flatMap Im.roE) ∧ Hid (cs.length ≤ 100 + i * 400000) ∧ Hid (Below W.heap.size W wr)) (fun _ _ v6 _ => os.length - (intOf v6).toNat)
    case atStart => exact ⟨0, _, Nat.zero_le _, rfl, rfl, H4, by show _ = _; simp, by have := len10 (len10 (cs := Im.magic) (B := 4) (by simp [Im.magic]) hnx) (show os.length < 18446744073709551616 by omega); show _ ≤ _; omega, HB4⟩
    case round =>
      obtain ⟨i, cs, hi, rfl, rfl, Hr, He, Hlen, Hw⟩ := hrel
      obtain ⟨a5, m5, c5, hv5⟩ := own_slN Hr.out
      subst hv5
      by_cases hil : i < os.length
      · have hiI : (i : Int) < (os.length : Int) := by omega
        have hx : os[i]? = some (os[i]'hil) := List.getElem?_eq_getElem hil
        generalize os[i]'hil = x at hx
        obtain ⟨-, hcB, hG⟩ := HX.out wr Hw.out
        obtain ⟨ao', co', eo', hob⟩ := hG.ob
        cases eo'
        obtain ⟨hlp, hlr, q, off, rfl, hq, hc⟩ := hob i x hx
        have c0 := (hcB 0).trans (show _ = some (.slice (some ⟨q, off, none⟩) os.length ac) from rfl)
        obtain ⟨ap, cp, evp, -, -⟩ := id hlp
        obtain ⟨ar, cr, evr, -, -⟩ := id hlr
        rw [List.length_map] at evr
        have x0 := (hc 0 (by decide)).trans (show _ = some (.int .u64 (x.o.ser : Int)) from rfl)
        have x1 := (hc 1 (by decide)).trans (show _ = some (.int .i64 x.o.kind) from rfl)
        have x2 := (hc 2 (by decide)).trans (show _ = some (.int .i64 x.o.site) from rfl)
        have x3 := (hc 3 (by decide)).trans (show _ = some (.slice ap x.o.ps.length cp) from congrArg some evp)
        have x4 := (hc 4 (by decide)).trans (show _ = some (.slice ar x.o.rs.length cr) from congrArg some evr)
        rw [Nat.add_zero] at x0
        have Hx : Hid (os[i]? = some x) := hx
        have Hlp : Hid (∀ w', Below W.heap.size wr w' → Lrd n0 w' (.slice ap x.o.ps.length cp) .i64 x.o.ps) := fun w' b' => by rw [← evp]; exact hlp.below (b'.mono (by omega))
        have Hlr : Hid (∀ w', Below W.heap.size wr w' → Lrd n0 w' (.slice ar x.o.rs.length cr) .u64 (x.o.rs.map Int.ofNat)) := fun w' b' => by rw [← evr]; exact hlr.below (b'.mono (by omega))
        have Hwc := HWc.out.o i x hx
        have Hbx := Hsz.out.2.2.1 x (List.mem_of_getElem? hx)
        have HWx : Hid (lastOf os i ≤ x.o.ser ∧ x.o.ser < 18446744073709551616 ∧ (0 ≤ x.o.kind ∧ x.o.kind ≤ 9223372036854775807) ∧ (0 ≤ x.o.site ∧ x.o.site ≤ 9223372036854775807) ∧ (∀ z, z ∈ x.o.ps → 0 ≤ z ∧ z ≤ 9223372036854775807) ∧ x.o.ps.length ≤ 1000000000 ∧ (∀ z, z ∈ x.o.rs → z < 18446744073709551616) ∧ x.o.rs.length ≤ 1000000000) := Hwc
        have HBx : Hid (x.o.ps.length ≤ 16384 ∧ x.o.rs.length ≤ 16384) := Hbx
        clear hob hlp hlr hc hcB hG hx Hwc Hbx evp evr
        go_upto_region 11 with fail
        have hb5 : Below wr.heap.size wr (wr.alloc (.cells #[.int .u64 (x.o.ser : Int), .int .i64 x.o.kind, .int .i64 x.o.site, .slice ap x.o.ps.length cp, .slice ar x.o.rs.length cr] 72)) := Below.alloc (Below.refl _ _) (Nat.le_refl _) _
        have hx5 := heap_alloc_new wr (.cells #[.int .u64 (x.o.ser : Int), .int .i64 x.o.kind, .int .i64 x.o.site, .slice ap x.o.ps.length cp, .slice ar x.o.rs.length cr] 72 (0, 0))
        have hs5 : (wr.alloc (.cells #[.int .u64 (x.o.ser : Int), .int .i64 x.o.kind, .int .i64 x.o.site, .slice ap x.o.ps.length cp, .slice ar x.o.rs.length cr] 72)).heap.size = wr.heap.size + 1 := by simp
        have Hr5 : Hid (Bt (wr.alloc (.cells #[.int .u64 (x.o.ser : Int), .int .i64 x.o.kind, .int .i64 x.o.site, .slice ap x.o.ps.length cp, .slice ar x.o.rs.length cr] 72)) W.heap.size (.slice a5 m5 c5) cs) := Hr.out.alloc _
        have Hp0 : Hid (Rp wr (.slice a5 m5 c5) (wr.alloc (.cells #[.int .u64 (x.o.ser : Int), .int .i64 x.o.kind, .int .i64 x.o.site, .slice ap x.o.ps.length cp, .slice ar x.o.rs.length cr] 72)) (.slice a5 m5 c5)) := Rp.of_below hb5
        have hnb : Value.ownBlock (.slice a5 m5 c5) ≠ some wr.heap.size := fun e => by have := (Hr.out.lt _ e).2; omega
        generalize wr.alloc (.cells #[.int .u64 (x.o.ser : Int), .int .i64 x.o.kind, .int .i64 x.o.site, .slice ap x.o.ps.length cp, .slice ar x.o.rs.length cr] 72) = W5 at *
        have HKX : Hid (∀ w' v', Rp W5 (.slice a5 m5 c5) w' v' → (∀ j, w'.cell? ⟨wr.heap.size, j, none⟩ = (#[.int .u64 (x.o.ser : Int), .int .i64 x.o.kind, .int .i64 x.o.site, .slice ap x.o.ps.length cp, .slice ar x.o.rs.length cr] : Array Value)[j]?) ∧ Below W.heap.size wr w' ∧ Below W.heap.size W w') := fun w' v' p' => by
          have h1 := (p'.block (k := wr.heap.size) (by omega) hnb).trans hx5
          have h2 := (Hp0.out.trans p').below Hr.out Hw.out.size
          exact ⟨fun j => Kg.heap_cell h1 j, h2, Hw.out.trans h2⟩
        clear hb5 hx5 hnb Hp0 x0 x1 x2 x3 x4 c0
        have hW5 : W.heap.size ≤ W5.heap.size := (HKX.out W5 _ (Rp.refl _ _)).2.2.size
        have y0 := ((HKX.out W5 _ (Rp.refl _ _)).1 0).trans (show _ = some (.int .u64 (x.o.ser : Int)) from rfl)
        have hser := HWx.out.2.1
        have hlst := HWx.out.1
        have hC := rNumber_any (x.o.ser - lastOf os i) (by omega) W.heap.size W5 hW5 _ cs Hr5.out (by have := Hlen.out; omega)
        rw [show ((x.o.ser - lastOf os i : Nat) : Int) = (x.o.ser : Int) - (lastOf os i : Int) by omega] at hC
        have hsub : ((x.o.ser : Int) - (lastOf os i : Int)) % 18446744073709551616 = (x.o.ser : Int) - (lastOf os i : Int) := by omega
        go_wp2_with fail
        refine hC.mono ?_
        rintro e w6 ⟨v6, rfl, p6, h6⟩
        have HL6 := len10 Hlen.out (show x.o.ser - lastOf os i < 18446744073709551616 by omega)
        have Hl6 : Hid ((cs ++ Im.num (x.o.ser - lastOf os i)).length ≤ 110 + i * 400000) := by show _ ≤ _; omega
        have Hp6 : Hid (Rp W5 (.slice a5 m5 c5) w6 v6) := p6
        have H6 : Hid (Bt w6 W.heap.size v6 (cs ++ Im.num (x.o.ser - lastOf os i))) := h6
        obtain ⟨a6, m6, c6, hv6⟩ := own_slN h6
        subst hv6
        clear hC p6 h6 HL6 y0 hsub
        have y0 := ((HKX.out w6 _ Hp6.out).1 0).trans (show _ = some (.int .u64 (x.o.ser : Int)) from rfl)
        have y1 := ((HKX.out w6 _ Hp6.out).1 1).trans (show _ = some (.int .i64 x.o.kind) from rfl)
        have hk := HWx.out.2.2.1
        have hC := rNumber_any x.o.kind.toNat (by omega) W.heap.size w6 (HKX.out w6 _ Hp6.out).2.2.size _ _ H6.out (by have := Hl6.out; omega)
        rw [show ((x.o.kind.toNat : Nat) : Int) = x.o.kind by omega] at hC
        have hkm : x.o.kind % 18446744073709551616 = x.o.kind := by omega
        go_wp2_with fail
        refine hC.mono ?_
        rintro e w7 ⟨v7, rfl, p7, h7⟩
        have HL7 := len10 Hl6.out (show x.o.kind.toNat < 18446744073709551616 by omega)
        have Hl7 : Hid ((cs ++ Im.num (x.o.ser - lastOf os i) ++ Im.num x.o.kind.toNat).length ≤ 120 + i * 400000) := by show _ ≤ _; omega
        have Hp7 : Hid (Rp W5 (.slice a5 m5 c5) w7 v7) := Hp6.out.trans p7
        have H7 : Hid (Bt w7 W.heap.size v7 (cs ++ Im.num (x.o.ser - lastOf os i) ++ Im.num x.o.kind.toNat)) := h7
        obtain ⟨a7, m7, c7, hv7⟩ := own_slN h7
        subst hv7
        clear hC p7 h7 HL7 y0 y1 hkm hk
        have y2 := ((HKX.out w7 _ Hp7.out).1 2).trans (show _ = some (.int .i64 x.o.site) from rfl)
        have hk := HWx.out.2.2.2.1
        have hC := rNumber_any x.o.site.toNat (by omega) W.heap.size w7 (HKX.out w7 _ Hp7.out).2.2.size _ _ H7.out (by have := Hl7.out; omega)
        rw [show ((x.o.site.toNat : Nat) : Int) = x.o.site by omega] at hC
        have hkm : x.o.site % 18446744073709551616 = x.o.site := by omega
        go_wp2_with fail
        refine hC.mono ?_
        rintro e w8 ⟨v8, rfl, p8, h8⟩
        have HL8 := len10 Hl7.out (show x.o.site.toNat < 18446744073709551616 by omega)
        have Hl8 : Hid ((cs ++ Im.num (x.o.ser - lastOf os i) ++ Im.num x.o.kind.toNat ++ Im.num x.o.site.toNat).length ≤ 130 + i * 400000) := by show _ ≤ _; omega
        have Hp8 : Hid (Rp W5 (.slice a5 m5 c5) w8 v8) := Hp7.out.trans p8
        have H8 : Hid (Bt w8 W.heap.size v8 (cs ++ Im.num (x.o.ser - lastOf os i) ++ Im.num x.o.kind.toNat ++ Im.num x.o.site.toNat)) := h8
        obtain ⟨a8, m8, c8, hv8⟩ := own_slN h8
        subst hv8
        clear hC p8 h8 HL8 y2 hkm hk
        have y3 := ((HKX.out w8 _ Hp8.out).1 3).trans (show _ = some (.slice ap x.o.ps.length cp) from rfl)
        have hpz := HWx.out.2.2.2.2.1
        have HL9 := lenE (l := x.o.ps.map Int.toNat) Hl8.out (by rw [List.length_map]; exact HBx.out.1) (fun y hy => by obtain ⟨z, hz, rfl⟩ := List.mem_map.1 hy; have := hpz z hz; omega)
        have Hl9 : Hid ((cs ++ Im.num (x.o.ser - lastOf os i) ++ Im.num x.o.kind.toNat ++ Im.num x.o.site.toNat ++ Im.listE Im.num (x.o.ps.map Int.toNat)).length ≤ 164000 + i * 400000) := by show _ ≤ _; omega
        have hC := rInts_any 0 (by omega) n0 W.heap.size w8 (by omega) (HKX.out w8 _ Hp8.out).2.2.size _ _ _ x.o.ps H8.out (Hlp.out w8 (HKX.out w8 _ Hp8.out).2.1) (fun z hz => by have := hpz z hz; omega) (by rw [add0, ← List.length_append]; have := Hl9.out; omega) (by have := HBx.out; omega)
        rw [add0] at hC
        clear hpz HL9
        go_wp2_with fail
        refine hC.mono ?_
        rintro e w9 ⟨v9, rfl, p9, h9⟩
        have Hp9 : Hid (Rp W5 (.slice a5 m5 c5) w9 v9) := Hp8.out.trans p9
        have H9 : Hid (Bt w9 W.heap.size v9 (cs ++ Im.num (x.o.ser - lastOf os i) ++ Im.num x.o.kind.toNat ++ Im.num x.o.site.toNat ++ Im.listE Im.num (x.o.ps.map Int.toNat))) := h9
        obtain ⟨a9, m9, c9, hv9⟩ := own_slN h9
        subst hv9
        clear hC p9 h9 y3
        have y4 := ((HKX.out w9 _ Hp9.out).1 4).trans (show _ = some (.slice ar x.o.rs.length cr) from rfl)
        have hrl := HBx.out.2
        have hC := rNumber_any x.o.rs.length (by omega) W.heap.size w9 (HKX.out w9 _ Hp9.out).2.2.size _ _ H9.out (by have := Hl9.out; omega)
        go_wp2_with fail
        refine hC.mono ?_
        rintro e w10 ⟨v10, rfl, p10, h10⟩
        have HL10 := len10 Hl9.out (show x.o.rs.length < 18446744073709551616 by omega)
        have Hp10 : Hid (Rp W5 (.slice a5 m5 c5) w10 v10) := Hp9.out.trans p10
        obtain ⟨C, hCe⟩ : ∃ C, C = cs ++ Im.num (x.o.ser - lastOf os i) ++ Im.num x.o.kind.toNat ++ Im.num x.o.site.toNat ++ Im.listE Im.num (x.o.ps.map Int.toNat) ++ Im.num x.o.rs.length := ⟨_, rfl⟩
        have Hl10 : Hid (C.length ≤ 164100 + i * 400000) := by rw [hCe]; show _ ≤ _; omega
        have H10 : Hid (Bt w10 W.heap.size v10 C) := by rw [hCe]; exact h10
        have HCe : Hid (C = cs ++ Im.num (x.o.ser - lastOf os i) ++ Im.num x.o.kind.toNat ++ Im.num x.o.site.toNat ++ Im.listE Im.num (x.o.ps.map Int.toNat) ++ Im.num x.o.rs.length) := hCe
        obtain ⟨a10, m10, c10, hv10⟩ := own_slN h10
        subst hv10
        clear hC p10 h10 HL10 hCe y4 H6 H7 H8 H9 Hl6 Hl7 Hl8 Hl9 Hp6 Hp7 Hp8 Hp9
        go_wp2
        go_loopw [4, 8] (fun v4 v8 wr => ∃ j : Nat, j ≤ x.o.rs.length ∧ v8 = .int .i64 j ∧ Hid (Bt wr W.heap.size v4 (C ++ (x.o.rs.take j).flatMap Im.num)) ∧ Hid (Rp W5 (.slice a5 m5 c5) wr v4)) (fun _ v8 _ => x.o.rs.length - (intOf v8).toNat)
        case atStart => exact ⟨0, Nat.zero_le _, rfl, by show Bt _ _ _ _; simpa using H10.out, Hp10⟩
        case round =>
          obtain ⟨j, hj, rfl, Hq, Hp⟩ := hrel
          obtain ⟨a11, m11, c11, hv11⟩ := own_slN Hq.out
          subst hv11
          obtain ⟨hcx, hbw, hbW⟩ := HKX.out wr _ Hp.out
          have y4 := (hcx 4).trans (show _ = some (.slice ar x.o.rs.length cr) from rfl)
          have hrl := HBx.out.2
          by_cases hjl : j < x.o.rs.length
          · as_aux_lemma =>
              have hjI : (j : Int) < (x.o.rs.length : Int) := by omega
              have hy : x.o.rs[j]? = some (x.o.rs[j]'hjl) := List.getElem?_eq_getElem hjl
              generalize x.o.rs[j]'hjl = y at hy
              have hyr := HWx.out.2.2.2.2.2.2.1 y (List.mem_of_getElem? hy)
              obtain ⟨a', cap', e', -, hel⟩ := Hlr.out wr hbw
              rw [List.length_map] at e'
              cases e'
              obtain ⟨q2, off2, rfl, hq2, hce⟩ := hel j (Int.ofNat y) (by rw [List.getElem?_map, hy]; rfl)
              have Ht : Hid ((x.o.rs.take (j + 1)).flatMap Im.num = (x.o.rs.take j).flatMap Im.num ++ Im.num y) := flatM_snoc Im.num hy
              have hL := lenF (l := x.o.rs.take j) Hl10.out (by have := List.length_take_le j x.o.rs; omega) (fun z hz => HWx.out.2.2.2.2.2.2.1 z (List.mem_of_mem_take hz))
              have hC := rNumber_any y hyr W.heap.size wr hbW.size _ _ Hq.out (by omega)
              clear hy hel hL hcx hbw hbW
              go_wp2_with fail
              refine hC.mono ?_
              rintro e w12 ⟨v12, rfl, p12, h12⟩
              have Hp12 : Hid (Rp W5 (.slice a5 m5 c5) w12 v12) := Hp.out.trans p12
              have H12 : Hid (Bt w12 W.heap.size v12 (C ++ (x.o.rs.take (j + 1)).flatMap Im.num)) := by
                show Bt _ _ _ _
                rw [Ht.out, ← List.append_assoc]
                exact h12
              obtain ⟨a12, m12, c12, hv12⟩ := own_slN h12
              subst hv12
              clear hC p12 h12 y4 hce
              go_wp2
              go_roundw
              case rel => exact ⟨j + 1, by omega, by go_num, H12, Hp12⟩
              case measure => simp [intOf]; omega
          · as_aux_lemma =>
              have hjI : ¬ (j : Int) < (x.o.rs.length : Int) := by omega
              have hL := lenF (l := x.o.rs) Hl10.out (by omega) (fun z hz => HWx.out.2.2.2.2.2.2.1 z hz)
              have H13 : Hid (Bt wr W.heap.size (.slice a11 m11 c11) (C ++ x.o.rs.flatMap Im.num)) := by
                have := Hq.out
                rw [List.take_of_length_le (by omega)] at this
                exact this
              have Hl13 : Hid ((C ++ x.o.rs.flatMap Im.num).length ≤ 100 + (i + 1) * 400000) := by show _ ≤ _; omega
              have He13 : Hid (C ++ x.o.rs.flatMap Im.num = Im.magic ++ Im.num g.next ++ Im.num os.length ++ ((rOs os).take (i + 1)).flatMap Im.roE) := by
                show _ = _
                rw [flatM_snoc Im.roE (rOs_at Hx.out), ← List.append_assoc, ← He.out, HCe.out]
                simp [Im.roE, Im.listE, List.append_assoc]
              have HB13 : Hid (Below W.heap.size W wr) := hbW
              have Hls : Hid (lastOf os (i + 1) = x.o.ser) := lastOf_succ Hx.out
              clear hL hcx hbw hbW Hq Hp
              go_wp2
              go_roundw
              case rel => exact ⟨i + 1, _, by omega, by rw [Hls.out], by go_num, H13, He13, Hl13, HB13⟩
              case measure => simp [intOf]; omega
      · have hiI : ¬ (i : Int) < (os.length : Int) := by omega
        have Hlen0 : Hid (cs.length ≤ 6999999990) := by have := Hlen.out; show _ ≤ _; omega
        have He0 : Hid (cs = Im.magic ++ Im.num g.next ++ Im.num os.length ++ (rOs os).flatMap Im.roE) := by
          have := He.out
          rw [List.take_of_length_le (by rw [rOs_len]; omega)] at this
          exact this
        have c1 := ((HX.out wr Hw.out).2.1 1).trans (show _ = some (.slice ba ts.length bc) from rfl)
        have c0 := ((HX.out wr Hw.out).2.1 0).trans (show _ = some (.slice aa os.length ac) from rfl)
        have hts := Hsz.out.2.1
        have hC := rNumber_any ts.length (by omega) W.heap.size wr Hw.out.size _ _ Hr.out (by have := Hlen0.out; omega)
        clear He Hlen
        go_wp2_with fail
        refine hC.mono ?_
        rintro e w6 ⟨v6, rfl, p6, h6⟩
        have HB6 : Hid (Below W.heap.size W w6) := Hw.out.trans (p6.below Hr.out Hw.out.size)
        have HL6 := len10 Hlen0.out (show ts.length < 18446744073709551616 by omega)
        obtain ⟨D, hDe⟩ : ∃ D, D = cs ++ Im.num ts.length := ⟨_, rfl⟩
        rw [← hDe] at h6 HL6
        have HDe : Hid (D = Im.magic ++ Im.num g.next ++ Im.num os.length ++ (rOs os).flatMap Im.roE ++ Im.num ts.length) := by rw [hDe, He0.out]; rfl
        have HDl : Hid (D.length ≤ 7000000000) := by show _ ≤ _; omega
        have H6 : Hid (Bt w6 W.heap.size v6 D) := h6
        obtain ⟨a6, m6, c6, hv6⟩ := own_slN h6
        subst hv6
        clear hC p6 h6 HL6 hDe c1 c0 Hr Hw He0 Hlen0
        go_wp2
        go_loopw [4, 9] (fun v4 v9 wr => ∃ (t : Nat) (ds : List Nat), t ≤ ts.length ∧ v9 = .int .i64 t ∧ Hid (Bt wr W.heap.size v4 ds) ∧ Hid (ds = D ++ ((sN ts).take t).flatMap (Im.listE (Im.listE Im.num))) ∧ Hid (ds.length ≤ 7000000000 + t * 3000000000) ∧ Hid (Below W.heap.size W wr)) (fun _ v9 _ => ts.length - (intOf v9).toNat)
        case atStart => exact ⟨0, D, Nat.zero_le _, rfl, H6, by show _ = _; simp, by have := HDl.out; show _ ≤ _; omega, HB6⟩
        case round =>
          obtain ⟨t, ds, ht, rfl, Hr, He, Hlen, Hw⟩ := hrel
          obtain ⟨a7, m7, c7, hv7⟩ := own_slN Hr.out
          subst hv7
          by_cases htl : t < ts.length
          · have htI : (t : Int) < (ts.length : Int) := by omega
            have hyt : ts[t]? = some (ts[t]'htl) := List.getElem?_eq_getElem htl
            generalize ts[t]'htl = y at hyt
            have Hyt : Hid (ts[t]? = some y) := hyt
            have Hsy := Hsz.out.2.2.2.1 y (List.mem_of_getElem? hyt)
            have HSy : Hid (y.2.length ≤ 16384 ∧ ∀ f, f ∈ y.2 → f.2.length ≤ 16384) := Hsy
            have HWy : Hid (∀ f, f ∈ y.2 → ∀ z, z ∈ f.2 → 0 ≤ z ∧ z ≤ 9223372036854775807) := fun f hf => ((HWc.out.tl y (List.mem_of_getElem? hyt)).2 f hf).2
            obtain ⟨-, hcB, hG⟩ := HX.out wr Hw.out
            obtain ⟨as', cs', es', hsl⟩ := hG.sl
            cases es'
            obtain ⟨hfr, qt, ot, rfl, hqt, hct⟩ := hsl t y hyt
            obtain ⟨af, cf, eyf, -⟩ := hfr
            rw [eyf] at hct
            have HF : Hid (∀ w', Below W.heap.size W w' → w'.cell? ⟨w.heap.size, 1, none⟩ = some (.slice (some ⟨qt, ot, none⟩) ts.length bc) ∧ w'.cell? ⟨qt, ot + t, none⟩ = some (.slice af y.2.length cf) ∧ Frd n0 w' (.slice af y.2.length cf) y.2) := fun w' b' => by
              obtain ⟨-, h1, h2⟩ := HX.out w' b'
              obtain ⟨as2, cs2, es2, h3⟩ := h2.sl
              cases es2
              obtain ⟨h4, q4, o4, e4, -, h5⟩ := h3 t y Hyt.out
              cases e4
              rw [eyf] at h4 h5
              exact ⟨(h1 1).trans rfl, h5, h4⟩
            have c1 := (HF.out wr Hw.out).1
            have hyl := HSy.out.1
            have hC := rNumber_any y.2.length (by omega) W.heap.size wr Hw.out.size _ _ Hr.out (by have := Hlen.out; omega)
            clear hcB hG hsl hyt Hsy eyf
            go_wp2_with fail
            refine hC.mono ?_
            rintro e w8 ⟨v8, rfl, p8, h8⟩
            have HB8 : Hid (Below W.heap.size W w8) := Hw.out.trans (p8.below Hr.out Hw.out.size)
            have HL8 := len10 Hlen.out (show y.2.length < 18446744073709551616 by omega)
            obtain ⟨E, hEe⟩ : ∃ E, E = ds ++ Im.num y.2.length := ⟨_, rfl⟩
            rw [← hEe] at h8 HL8
            have HEe : Hid (E = ds ++ Im.num y.2.length) := hEe
            obtain ⟨T, hT⟩ : ∃ T, T = 7000000010 + t * 3000000000 := ⟨_, rfl⟩
            have HEl : Hid (E.length ≤ T) := by show _ ≤ _; omega
            have HT : Hid (T = 7000000010 + t * 3000000000) := hT
            have HTl : Hid (T ≤ 40000000000) := by show _ ≤ _; omega
            clear hT
            have H8 : Hid (Bt w8 W.heap.size v8 E) := h8
            obtain ⟨a8, m8, c8, hv8⟩ := own_slN h8
            subst hv8
            clear hC p8 h8 HL8 hEe c1 hct Hr Hw
            go_wp2
            go_loopw [4, 10] (fun v4 v10 wr => ∃ (f : Nat) (es : List Nat), f ≤ y.2.length ∧ v10 = .int .i64 f ∧ Hid (Bt wr W.heap.size v4 es) ∧ Hid (es = E ++ ((fN y).take f).flatMap (Im.listE Im.num)) ∧ Hid (es.length ≤ T + f * 170000) ∧ Hid (Below W.heap.size W wr)) (fun _ v10 _ => y.2.length - (intOf v10).toNat)
            case atStart => exact ⟨0, E, Nat.zero_le _, rfl, H8, by show _ = _; simp, by have := HEl.out; show _ ≤ _; omega, HB8⟩
            case round =>
              obtain ⟨f, es, hf, rfl, Hr, Hee, Hlen', Hw⟩ := hrel
              obtain ⟨a9, m9, c9, hv9⟩ := own_slN Hr.out
              subst hv9
              obtain ⟨c1, ct, hfr⟩ := HF.out wr Hw.out
              have hyl := HSy.out.1
              by_cases hfl : f < y.2.length
              · as_aux_lemma =>
                  have hfI : (f : Int) < (y.2.length : Int) := by omega
                  have hzf : y.2[f]? = some (y.2[f]'hfl) := List.getElem?_eq_getElem hfl
                  generalize y.2[f]'hfl = z at hzf
                  have hzm := List.mem_of_getElem? hzf
                  obtain ⟨a', c', e', hfe⟩ := hfr
                  cases e'
                  obtain ⟨hlr, qf, of', rfl, hqf, hcf⟩ := hfe f z hzf
                  obtain ⟨ag, cg, ezg, -, -⟩ := id hlr
                  rw [ezg] at hcf hlr
                  have hzl := HSy.out.2 z hzm
                  have hzz := HWy.out z hzm
                  have HL9 := lenE (l := z.2.map Int.toNat) Hlen'.out (by rw [List.length_map]; exact hzl) (fun n hn => by obtain ⟨u, hu, rfl⟩ := List.mem_map.1 hn; have := hzz u hu; omega)
                  have hC := rInts_any 0 (by omega) n0 W.heap.size wr (by omega) Hw.out.size _ _ _ z.2 Hr.out hlr (fun u hu => by have := hzz u hu; omega) (by rw [add0, ← List.length_append]; have := HTl.out; omega) (by omega)
                  rw [add0] at hC
                  have Ht : Hid (((fN y).take (f + 1)).flatMap (Im.listE Im.num) = ((fN y).take f).flatMap (Im.listE Im.num) ++ Im.listE Im.num (z.2.map Int.toNat)) := flatM_snoc _ (fN_at hzf)
                  clear hfe hlr hzz hzf ezg
                  go_wp2_with fail
                  refine hC.mono ?_
                  rintro e w10 ⟨v10, rfl, p10, h10⟩
                  have HB10 : Hid (Below W.heap.size W w10) := Hw.out.trans (p10.below Hr.out Hw.out.size)
                  have H10 : Hid (Bt w10 W.heap.size v10 (es ++ Im.listE Im.num (z.2.map Int.toNat))) := h10
                  have Hl10 : Hid ((es ++ Im.listE Im.num (z.2.map Int.toNat)).length ≤ T + (f + 1) * 170000) := by show _ ≤ _; omega
                  have He10 : Hid (es ++ Im.listE Im.num (z.2.map Int.toNat) = E ++ ((fN y).take (f + 1)).flatMap (Im.listE Im.num)) := by
                    show _ = _
                    rw [Ht.out, Hee.out, List.append_assoc]
                  obtain ⟨a10, m10, c10, hv10⟩ := own_slN h10
                  subst hv10
                  clear hC p10 h10 HL9 hcf c1 ct Hr Hw
                  go_wp2
                  go_roundw
                  case rel => exact ⟨f + 1, _, by omega, by go_num, H10, He10, Hl10, HB10⟩
                  case measure => simp [intOf]; omega
              · as_aux_lemma =>
                  have hfI : ¬ (f : Int) < (y.2.length : Int) := by omega
                  have He11 : Hid (es = D ++ ((sN ts).take (t + 1)).flatMap (Im.listE (Im.listE Im.num))) := by
                    show _ = _
                    have e9 : (fN y).take f = fN y := List.take_of_length_le (by show (fN y).length ≤ f; rw [List.length_map]; omega)
                    rw [flatM_snoc _ (sN_at Hyt.out), Hee.out, e9, HEe.out, He.out, listE_def (Im.listE Im.num) (fN y), List.length_map]
                    simp only [List.append_assoc]
                  have Hl11 : Hid (es.length ≤ 7000000000 + (t + 1) * 3000000000) := by have := Hlen'.out; have := HT.out; show _ ≤ _; omega
                  clear hfr
                  go_wp2
                  go_roundw
                  case rel => exact ⟨t + 1, es, by omega, by go_num, Hr, He11, Hl11, Hw⟩
                  case measure => simp [intOf]; omega
          · have htI : ¬ (t : Int) < (ts.length : Int) := by omega
            have Hlen0 : Hid (ds.length ≤ 40000000000) := by have := Hlen.out; show _ ≤ _; omega
            have He0 : Hid (ds = D ++ (sN ts).flatMap (Im.listE (Im.listE Im.num))) := by
              have := He.out
              rw [List.take_of_length_le (by show (sN ts).length ≤ t; rw [List.length_map]; omega)] at this
              exact this
            obtain ⟨-, hcB, hG⟩ := HX.out wr Hw.out
            have c1 := (hcB 1).trans (show _ = some (.slice ba ts.length bc) from rfl)
            have c2 := (hcB 2).trans (show _ = some (.slice ca g.hs.length cc) from rfl)
            have hhz := HWc.out.h
            have HL9 := lenE (l := g.hs.map fun z => (z + 1).toNat) Hlen0.out (by rw [List.length_map]; exact Hsz.out.2.2.2.2.1) (fun n hn => by obtain ⟨u, hu, rfl⟩ := List.mem_map.1 hn; have := hhz u hu; omega)
            have hC := rInts_any 1 (by omega) n0 W.heap.size wr (by omega) Hw.out.size _ _ _ g.hs Hr.out hG.hs (fun u hu => by have := hhz u hu; omega) (by rw [← List.length_append]; omega) (by have := Hsz.out; omega)
            clear hcB hG hhz
            go_wp2_with fail
            refine hC.mono ?_
            rintro e w10 ⟨v10, rfl, p10, h10⟩
            have HB10 : Hid (Below W.heap.size W w10) := Hw.out.trans (p10.below Hr.out Hw.out.size)
            obtain ⟨F, hFe⟩ : ∃ F, F = ds ++ Im.listE Im.num (g.hs.map fun z => (z + 1).toNat) := ⟨_, rfl⟩
            rw [← hFe] at h10 HL9
            have HFe : Hid (F = ds ++ Im.listE Im.num (g.hs.map fun z => (z + 1).toNat)) := hFe
            have HFl : Hid (F.length ≤ 40000200000) := by show _ ≤ _; omega
            have H10 : Hid (Bt w10 W.heap.size v10 F) := h10
            obtain ⟨a10, m10, c10, hv10⟩ := own_slN h10
            subst hv10
            clear hC p10 h10 HL9 hFe c1 c2 Hr Hw He Hlen
            obtain ⟨-, hcB, hG⟩ := HX.out w10 HB10.out
            have c4 := (hcB 4).trans (show _ = some (.slice qa g.qu.length qc) from rfl)
            have hqz := HWc.out.q
            have HL9 := lenE (l := g.qu.map Int.toNat) HFl.out (by rw [List.length_map]; exact Hsz.out.2.2.2.2.2) (fun n hn => by obtain ⟨u, hu, rfl⟩ := List.mem_map.1 hn; have := hqz u hu; omega)
            have hC := rInts_any 0 (by omega) n0 W.heap.size w10 (by omega) HB10.out.size _ _ _ g.qu H10.out hG.qu (fun u hu => by have := hqz u hu; omega) (by rw [add0, ← List.length_append]; omega) (by have := Hsz.out; omega)
            rw [add0] at hC
            clear hcB hG hqz
            go_wp2_with fail
            refine hC.mono ?_
            rintro e w11 ⟨v11, rfl, p11, h11⟩
            have HB11 : Hid (Below W.heap.size W w11) := HB10.out.trans (p11.below H10.out HB10.out.size)
            have eB : F ++ Im.listE Im.num (g.qu.map Int.toNat) = Im.body (Im.toNG g) := by
              rw [HFe.out, He0.out, HDe.out]
              simp only [Im.body, Im.ngE, Im.toNG, Hg0.out.eo, Hg0.out.es, listE_def Im.roE, listE_def (Im.listE (Im.listE Im.num)), rOs_len, List.length_map, List.map_map, List.append_assoc, Function.comp_def]
            rw [eB] at h11 HL9
            have HBl : Hid ((Im.body (Im.toNG g)).length ≤ 40000400000) := by show _ ≤ _; omega
            have H11 : Hid (Bt w11 W.heap.size v11 (Im.body (Im.toNG g))) := h11
            have hS := rSum_any w11.heap.size w11 v11 (Im.body (Im.toNG g)) (Lrd.of_bts (Kg.row_base h11 (Nat.zero_le _))) (body_byte g) (by omega)
            obtain ⟨a11, m11, c11, hv11⟩ := own_slN h11
            subst hv11
            clear hC p11 h11 HL9 eB c4
            go_wp2_with fail
            refine hS.mono ?_
            rintro e w12 ⟨rfl, rfl⟩
            have hSl := Im.fnv_lt (Im.body (Im.toNG g))
            obtain ⟨S, hSe⟩ : ∃ S, Im.fnv (Im.body (Im.toNG g)) = S := ⟨_, rfl⟩
            rw [hSe] at hSl ⊢
            have HSe : Hid (Im.fnv (Im.body (Im.toNG g)) = S) := hSe
            clear hS hSe
            go_wp2
            obtain ⟨BB, hBB⟩ : ∃ BB, BB = Im.body (Im.toNG g) := ⟨_, rfl⟩
            rw [← hBB] at H11 HBl
            have HBB : Hid (BB = Im.body (Im.toNG g)) := hBB
            clear hBB
            go_loopw [4, 11, 12] (fun v4 v11 v12 wr => ∃ (k q : Nat), k ≤ 4 ∧ v12 = .int .i64 k ∧ v11 = .int .u32 (q : Int) ∧ q < 4294967296 ∧ Hid (q = S / 256 ^ k) ∧ Hid (Bt wr W.heap.size v4 (BB ++ (Im.le4 S).take k)) ∧ Hid (Below W.heap.size W wr)) (fun _ _ v12 _ => 4 - (intOf v12).toNat)
            case atStart => exact ⟨0, S, by omega, rfl, rfl, hSl, by show _ = _; simp, by show Bt _ _ _ _; simpa using H11.out, HB11⟩
            case round =>
              obtain ⟨k, q, hk, rfl, rfl, hq, Hqe, Hr, Hw⟩ := hrel
              obtain ⟨a13, m13, c13, hv13⟩ := own_slN Hr.out
              subst hv13
              by_cases hk4 : k < 4
              · as_aux_lemma =>
                  have hkI : (k : Int) < 4 := by omega
                  have Hll : Hid ((BB ++ (Im.le4 S).take k).length ≤ 40000400010) := by
                    have := HBl.out
                    have h2 := List.length_take_le k (Im.le4 S)
                    show _ ≤ _
                    rw [List.length_append]
                    omega
                  have Ht : Hid ((Im.le4 S).take (k + 1) = (Im.le4 S).take k ++ [q % 256]) := by rw [Hqe.out]; exact le4_at S k hk4
                  have Hwo : Hid (W.heap.size ≤ wr.heap.size) := Hw.out.size
                  go_upto_region 37 with (at_builtin; refine wpList_append_own_at _ rfl _ _ 22 rfl W.heap.size 5 i0 (.int .u8 0) 1 1 Tryd.underlying22 HI.out.1 HI.out.2.1 HI.out.2.2.1 HI.out.2.2.2 rfl (by decide) _ _ _ rfl (Hr.out.alloc _) ⟨wr.heap.size, 0, none⟩ 1 1 [_] rfl rfl (cell_one_new _ _ _) (by simp [Value.oneCell']) (by have := Hll.out; simp only [maxLen]; omega) (by have := Hll.out; omega) (by have := Hwo.out; simp; omega) ?_; intro v' w8 hown' hgrow _ hat)
                  have hP := bt_push (x := q % 256) Hr.out (by rw [show ((q % 256 : Nat) : Int) = (q : Int) % 256 by omega]; exact hown') hgrow hat
                  have HP : Hid (Bt w8 W.heap.size v' (BB ++ (Im.le4 S).take (k + 1))) := by
                    show Bt _ _ _ _
                    rw [Ht.out, ← List.append_assoc]
                    exact hP.1
                  have HB8 : Hid (Below W.heap.size W w8) := Hw.out.trans (hP.2.below Hr.out Hwo.out)
                  have Hq8 : Hid (q / 256 = S / 256 ^ (k + 1)) := by
                    show _ = _
                    rw [Hqe.out, Nat.pow_succ, Nat.div_div_eq_div_mul]
                  obtain ⟨a9, m9, c9, hv9⟩ := own_slN HP.out
                  subst hv9
                  clear hP hown' hgrow hat Hr Hw
                  go_wp2
                  go_roundw
                  case rel => exact ⟨k + 1, q / 256, by omega, by go_num, by simp, by omega, Hq8, HP, HB8⟩
                  case measure => simp [intOf]; omega
              · as_aux_lemma =>
                  have hkI : ¬ (k : Int) < 4 := by omega
                  have H14 : Hid (Bt wr W.heap.size (.slice a13 m13 c13) (Im.enc (Im.toNG g))) := by
                    have := Hr.out
                    rw [List.take_of_length_le (by simp [Im.le4]; omega), HBB.out, ← HSe.out] at this
                    exact this
                  clear Hr
                  go_wp2
                  go_ret2
                  exact ⟨_, _, rfl, (HX.out wr Hw.out).1, .inl ⟨rfl, Hm.out, Kg.row_base H14.out (by omega)⟩⟩
  · have Hm : Hid (¬ MB g) := hm
    clear hm
    go_wp2
    go_ret2
    exact ⟨_, _, rfl, (HX.out w1 HB1.out).1, .inr ⟨rfl, Hm.out, rfl⟩⟩

end Go.Proofs.YtblbiikfipcbcaaDoor
