import Derived.Test.YtkekaifiahjljaaGreatDoorC05
set_option linter.unusedVariables false
set_option maxHeartbeats 8000000
set_option maxRecDepth 20000
namespace Go.Proofs.YtkekaifiahjljaaGreatDoor
open Go.RowKit Go.Shelf
def slen : Value → Nat
  | .slice _ n _ => n
  | _ => 0
theorem row_cutk {w : World} {base e n k g cap : Nat} {xs ys : List Value} (h : w.ownsRow base e 1 (.slice (some ⟨g, 0, none⟩) n cap) n xs) (hk : k ≤ n) (hy : ys = xs.take k) : w.ownsRow base e 1 (.slice (some ⟨g, 0, none⟩) k cap) k ys := by
  subst hy
  have hl := h.1
  rcases h.2 with ⟨h1, h2⟩ | ⟨g', cap', cur, h1, h2, h3, h4, h5, h6, h7⟩
  · cases h1
  · cases h1
    refine ⟨by rw [List.length_take]; omega, .inr ⟨g, cap, cur, rfl, h2, h3, by omega, h5, h6, ?_⟩⟩
    rw [← h7, List.take_take]
    congr 1
    omega
theorem own_cap {w : World} {base e n k s : Nat} {a : Option Addr} {cap : Nat} {xs : List Value} (h : w.ownsRow base e s (.slice a k cap) n xs) : n ≤ cap := by
  rcases h.2 with ⟨h1, h2⟩ | ⟨g', cap', cur, h1, h2, h3, h4, h5, h6, h7⟩
  · cases h1; omega
  · cases h1; exact h4
theorem wsum_congr {obs : List Im.Ob} {M N : Nat → Bool} : ∀ n, (∀ j, 1 ≤ j → j ≤ n → M j = N j) → Im.wsum obs M n = Im.wsum obs N n := by
  intro n
  induction n with
  | zero => intro _; rfl
  | succ n ih =>
    intro h
    unfold Im.wsum
    rw [ih (fun j h1 h2 => h j h1 (by omega)), h (n + 1) (by omega) (Nat.le_refl _)]
def seen (w : World) (B : Nat) : Nat → Bool := fun j => match w.cell? ⟨B, j, none⟩ with
  | some (.bool b) => b
  | _ => false
theorem seen_row {w : World} {B n t : Nat} {M : Nat → Bool} (h : w.rowIs B t (n + 1) (fun j => .bool (M j))) (obs : List Im.Ob) : Im.wsum obs (seen w B) n = Im.wsum obs M n :=
  wsum_congr n (fun j _ h2 => by unfold seen; rw [h.cell (by omega)])
theorem gAll_any (n0 : Nat) (w : World) (vo vs vh vr vq : Value) (os : List OL) (ts : List (Value × List (Value × List Int))) (g : Im.Gr) (hg : Grd n0 w vo vs vh vr vq os ts g) (hn : n0 ≤ w.heap.size) (hs : Sln ts) (hol : os.length ≤ 1000000000000)
    (hlen : (ents g).length + Im.wsum g.obs (fun _ => false) g.obs.length ≤ 1000000000000) (hq : ∀ z, Im.Root g z → z ≤ g.obs.length) (hp : ∀ o, o ∈ g.obs → ∀ z, z ∈ o.ps → z ≤ g.obs.length) :
    Calls Tryz.prog 156 #[.agg (gcs vo vs vh vr vq g.next)] w fun e w' => ∃ r : Bool, e = .returned (.bool r) ∧ Below w.heap.size w w' ∧ (r = true ↔ ∀ n, 1 ≤ n → n ≤ g.obs.length → Im.Known g n) := by
  obtain ⟨i0, hi0, hj0, hj1, hj2⟩ := info_parts Kg.Tryz.infoInt
  have HI : Hid (Tryz.prog.info? 3 = some i0 ∧ i0.zero = some (.int .i64 0) ∧ i0.size = 1 ∧ i0.bytes = 8) := ⟨hi0, hj0, hj1, hj2⟩
  clear hi0 hj0 hj1 hj2
  have l1 : Below w.heap.size w (w.alloc (.cells (gcs vo vs vh vr vq g.next) 27)) := Below.alloc (Below.refl _ _) (Nat.le_refl _) _
  have hy := fun j => cell_of_row _ _ j _ _ _ (heap_alloc_new w (.cells (gcs vo vs vh vr vq g.next) 27 (0, 0)))
  have y0 : (w.alloc (.cells (gcs vo vs vh vr vq g.next) 27)).cell? ⟨w.heap.size, 0, none⟩ = some vo := hy 0
  have y1 : (w.alloc (.cells (gcs vo vs vh vr vq g.next) 27)).cell? ⟨w.heap.size, 1, none⟩ = some vs := hy 1
  have y2 : (w.alloc (.cells (gcs vo vs vh vr vq g.next) 27)).cell? ⟨w.heap.size, 2, none⟩ = some vh := hy 2
  have y3 : (w.alloc (.cells (gcs vo vs vh vr vq g.next) 27)).cell? ⟨w.heap.size, 3, none⟩ = some vr := hy 3
  have y4 : (w.alloc (.cells (gcs vo vs vh vr vq g.next) 27)).cell? ⟨w.heap.size, 4, none⟩ = some vq := hy 4
  have y5 : (w.alloc (.cells (gcs vo vs vh vr vq g.next) 27)).cell? ⟨w.heap.size, 5, none⟩ = some (.int .u64 g.next) := hy 5
  have Hg : Hid (Grd n0 w vo vs vh vr vq os ts g) := hg
  have HEn : Hid (∀ w', Below w.heap.size w w' → Calls Tryz.prog 185 #[.agg (gcs vo vs vh vr vq g.next)] w' fun e w'' => ∃ v, e = .returned v ∧ Below w'.heap.size w' w'' ∧ w''.ownsRow w'.heap.size 3 1 v (ents g).length (Kg.ints (ents g))) := fun w' b' =>
    gEntries_any n0 w' vo vs vh vr vq os ts g (hg.below (b'.mono hn)) (Nat.le_trans hn b'.size) hs (by omega)
  have hx := hg.ob
  obtain ⟨a, cap, rfl, -⟩ := hx
  have hx := hg.sl
  obtain ⟨b, bcap, rfl, -⟩ := hx
  have hx := hg.hs
  obtain ⟨ah, hcap, rfl, -⟩ := hx
  have hx := hg.rg
  obtain ⟨ar, rcap, rfl, -⟩ := hx
  have hx := hg.qu
  obtain ⟨aq, qcap, rfl, -⟩ := hx
  have Heo : Hid (g.obs = os.map (·.o)) := hg.eo
  have Heol : Hid (g.obs.length = os.length) := by show _ = _; rw [hg.eo, List.length_map]
  have Hp : Hid (∀ o, o ∈ g.obs → ∀ z, z ∈ o.ps → z ≤ g.obs.length) := hp
  have HW0 : Hid (Im.Wl g (fun _ => false) (ents g) 0) := Im.Wl.start (mem_ents g) hq
  have Hlen : Hid ((ents g).length + Im.wsum g.obs (fun _ => false) os.length ≤ 1000000000000) := by rw [← Heol.out]; exact hlen
  clear hg hy hs hp hq hlen
  generalize hw1 : w.alloc (.cells (gcs (.slice a os.length cap) (.slice b ts.length bcap) (.slice ah g.hs.length hcap) (.slice ar g.rg.length rcap) (.slice aq g.qu.length qcap) g.next) 27) = w1 at *
  have e1 : w1.heap.size = w.heap.size + 1 := by rw [← hw1]; simp
  have hmk : ∀ w, (Instr.makeSlice 41 (.int .i64 ((os.length : Int) + 1)) (.int .i64 ((os.length : Int) + 1))).run Tryz.prog w = .ok (.slice (some ⟨w.heap.size, 0, none⟩) (os.length + 1) (os.length + 1)) (w.alloc (.cells (madeCells #[.bool false] (os.length + 1)) 4)) := fun w => make_bools (os.length + 1) (by omega) w
  have HR : Hid ((w1.alloc (.cells (madeCells #[.bool false] (os.length + 1)) 4)).rowIs w1.heap.size 4 (os.length + 1) (fun j => .bool ((fun _ => false) j))) := World.rowIs_made w1 (.bool false) (os.length + 1) 4
  have B2 : Below w1.heap.size w1 (w1.alloc (.cells (madeCells #[.bool false] (os.length + 1)) 4)) := Below.alloc (Below.refl _ _) (Nat.le_refl _) _
  have HK : Hid (∀ w', Below w1.heap.size w1 w' → w'.cell? ⟨w.heap.size, 0, none⟩ = some (.slice a os.length cap)) := fun w' b' => (b'.cell (p := ⟨w.heap.size, 0, none⟩) (by rw [e1]; exact Nat.lt_succ_self _)).trans y0
  have hlt : w.heap.size < w1.heap.size := by omega
  have q0 := HK.out _ B2
  have q1 := (B2.cell (p := ⟨w.heap.size, 1, none⟩) hlt).trans y1
  have q2 := (B2.cell (p := ⟨w.heap.size, 2, none⟩) hlt).trans y2
  have q3 := (B2.cell (p := ⟨w.heap.size, 3, none⟩) hlt).trans y3
  have q4 := (B2.cell (p := ⟨w.heap.size, 4, none⟩) hlt).trans y4
  have q5 := (B2.cell (p := ⟨w.heap.size, 5, none⟩) hlt).trans y5
  have B12 : Below w.heap.size w (w1.alloc (.cells (madeCells #[.bool false] (os.length + 1)) 4)) := l1.trans (B2.mono l1.size)
  have hen := HEn.out _ B12
  have HB2 : Hid (Below w1.heap.size w1 (w1.alloc (.cells (madeCells #[.bool false] (os.length + 1)) 4))) := B2
  clear B2 B12 hlt
  go_enter Tryz.func156, Tryz.ntmps156
  go_upto_region 2 with fail
  clear hmk y0 y1 y2 y3 y4 y5
  generalize w1.alloc (.cells (madeCells #[.bool false] (os.length + 1)) 4) = w2 at *
  rw [e1] at HR
  go_wp2_with fail
  refine hen.mono ?_
  rintro e w3 ⟨v3, rfl, b3, o3⟩
  have HB3 : Hid (Below w1.heap.size w1 w3) := HB2.out.trans (b3.mono HB2.out.size)
  have HR3 : Hid (w3.rowIs (w.heap.size + 1) 4 (os.length + 1) (fun j => .bool ((fun _ => false) j))) := HR.out.of_block (b3.block _ HR.out.lt)
  have Ho3 : Hid (w3.ownsRow w2.heap.size 3 1 v3 (ents g).length (Kg.ints (ents g))) := o3
  have Hlt2 : Hid (w.heap.size + 1 < w2.heap.size) := HR.out.lt
  have HB2s : Hid (w1.heap.size ≤ w2.heap.size) := HB2.out.size
  have Hs3 : Hid (w2.heap.size ≤ w3.heap.size) := b3.size
  obtain ⟨a3, c3, hv3⟩ := own_slI o3
  subst hv3
  clear hen b3 o3 HR HB2 q0 q1 q2 q3 q4 q5
  go_wp2
  go_loopw [4, 5] (fun v4 v5 wr => ∃ (k : Nat) (L : List Int) (M : Nat → Bool), v4 = .int .i64 k ∧ k ≤ os.length ∧ Hid (wr.ownsRow w2.heap.size 3 1 v5 L.length (Kg.ints L)) ∧ Hid (wr.rowIs (w.heap.size + 1) 4 (os.length + 1) (fun j => .bool (M j))) ∧ Hid (Im.Wl g M L k) ∧ Hid (L.length + Im.wsum g.obs M os.length ≤ 1000000000000) ∧ Hid (Below w1.heap.size w1 wr) ∧ w2.heap.size ≤ wr.heap.size) (fun _ v5 wr => slen v5 + Im.wsum g.obs (seen wr (w.heap.size + 1)) os.length)
  case atStart => exact ⟨0, ents g, fun _ => false, rfl, Nat.zero_le _, Ho3, HR3, HW0, Hlen, HB3, Hs3.out⟩
  case round =>
    obtain ⟨k, L, M, rfl, hkn, Hr, Hm, HW, Hle, Hb, hws⟩ := hrel
    obtain ⟨a4, c4, hv4⟩ := own_slI Hr.out
    subst hv4
    have z0 := HK.out _ Hb.out
    have BW : Hid (Below w.heap.size w wr) := l1.trans (Hb.out.mono l1.size)
    by_cases hL : L = []
    · subst hL
      have Hfin : Hid ((k = g.obs.length) ↔ ∀ n, 1 ≤ n → n ≤ g.obs.length → Im.Known g n) := HW.out.done Hp.out
      by_cases hke : k = os.length
      · have hki : ((k : Int) == (os.length : Int)) = true := by simp [hke]
        go_wp2
        go_ret
        exact ⟨true, rfl, BW.out, fun _ => Hfin.out.1 (by rw [Heol.out]; exact hke), fun _ => rfl⟩
      · have hki : ((k : Int) == (os.length : Int)) = false := by simp; omega
        go_wp2
        go_ret
        exact ⟨false, rfl, BW.out, ⟨fun h9 => Bool.noConfusion h9, fun h9 => absurd (by rw [← Heol.out]; exact Hfin.out.2 h9) hke⟩⟩
    · obtain ⟨L', z, rfl⟩ : ∃ L' z, L = L' ++ [z] := ⟨L.dropLast, L.getLast hL, (List.dropLast_concat_getLast hL).symm⟩
      have hz : (L' ++ [z]).length = L'.length + 1 := by simp
      rw [hz] at Hr Hle ⊢
      obtain ⟨gb, cp, ev⟩ := Kg.ownsRow_some Hr.out (by omega)
      rw [ev] at Hr ⊢
      clear ev hz hL a4 c4
      have hll : (0 : Int) < (L'.length : Int) + 1 := by omega
      have hll2 : ((L'.length : Int) + 1) > 0 := by omega
      have hcp : (L'.length : Int) ≤ (cp : Int) := by have := own_cap Hr.out; omega
      have hcp2 : L'.length ≤ cp := by omega
      have hwl : wrap64 (L'.length : Int) = (L'.length : Int) := by unfold wrap64; have := Hle.out; omega
      have clast : wr.cell? ⟨gb, L'.length, none⟩ = some (.int .i64 z) := by
        have h9 := Hr.out.cells (g := gb) rfl L'.length (.int .i64 z) (by simp [Kg.ints])
        rw [Addr.add_lit, Nat.zero_add] at h9
        exact h9
      have Hr' : Hid (wr.ownsRow w2.heap.size 3 1 (.slice (some ⟨gb, 0, none⟩) L'.length cp) L'.length (Kg.ints L')) := row_cutk Hr.out (by omega) (by simp [Kg.ints])
      have hmem : ∀ y, y ∈ L' ++ [z] ↔ y = z ∨ y ∈ L' := fun y => by simp [or_comm]
      have Hsk : Hid ((z ≤ 0 ∨ M z.toNat = true) → Im.Wl g M L' k) := fun h9 => HW.out.skip hmem h9
      have Hll : Hid (L'.length + 1 + Im.wsum g.obs M os.length ≤ 1000000000000) := Hle
      by_cases hz0 : 0 < z
      · have hzq : z ≤ g.obs.length := HW.out.q z (by simp)
        obtain ⟨m, rfl⟩ : ∃ m : Nat, z = m := ⟨z.toNat, by omega⟩
        have hm1 : 1 ≤ m := by omega
        have hm2 : m ≤ os.length := by have := Heol.out; omega
        have hm3 : (m : Int) < (os.length : Int) + 1 := by omega
        have hm4 : m < os.length + 1 := by omega
        have hzi : (m : Int) > 0 := hz0
        have crow : wr.cell? ⟨w.heap.size + 1, m, none⟩ = some (.bool (M m)) := Hm.out.cell hm4
        cases hM : M m with
        | true =>
          rw [hM] at crow
          have HW2 : Hid (Im.Wl g M L' k) := Hsk.out (.inr (by simpa using hM))
          clear hM hmem hzq
          go_wp2
          go_roundw
          case rel => exact ⟨k, L', M, rfl, hkn, Hr', Hm, HW2, (by have := Hll.out; show _ ≤ _; omega), Hb, hws⟩
          case measure => simp [slen]
        | false =>
          rw [hM] at crow
          have hos : os[m - 1]? = some (os[m - 1]'(by omega)) := List.getElem?_eq_getElem (by omega)
          generalize os[m - 1]'(by omega) = x at hos
          have Hob : Hid (g.obs[(m : Int).toNat - 1]? = some x.o) := by
            show _ = _
            rw [show (m : Int).toNat - 1 = m - 1 by omega, Heo.out, List.getElem?_map, hos]; rfl
          have HW2 : Hid (Im.Wl g (Im.metSet M m) (L' ++ x.o.ps) (k + 1)) := by
            have h9 := HW.out.take (pd' := L' ++ x.o.ps) (z := (m : Int)) (o := x.o) (fun y hy => by rcases (hmem y).1 hy with h | h; exact .inl h; exact .inr (List.mem_append_left _ h)) Hob.out (fun y hy => List.mem_append_right _ hy) (fun y hy => by rcases List.mem_append.1 hy with h | h; exact .inl ((hmem y).2 (.inr h)); exact .inr h) (fun y hy => Hp.out x.o (List.mem_of_getElem? Hob.out) y hy) (by simp) hz0 (by simpa using hM)
            show Im.Wl _ _ _ _
            simpa using h9
          have Hsum : Hid (Im.wsum g.obs (Im.metSet M m) os.length + x.o.ps.length = Im.wsum g.obs M os.length) := by
            have h9 := Im.wsum_set (obs := g.obs) (M := M) (k := m) (o := x.o) hM hm1 (by have := Hob.out; simpa using this) os.length hm2
            exact h9
          have hk1 : k + 1 ≤ os.length := by
            have h9 := HW2.out.k
            have h8 := Im.cnt_le (Im.metSet M m) g.obs.length
            have := Heol.out
            omega
          have hfr : wr.frozen? ⟨w.heap.size + 1, m, none⟩ = false := Hm.out.frozen m
          have HbS : Hid (Below w1.heap.size w1 (wr.setCell ⟨w.heap.size + 1, m, none⟩ (.bool true))) := Hb.out.trans ((Kg.Touch.setCell (F := [w.heap.size + 1]) wr ⟨w.heap.size + 1, m, none⟩ _ (by simp)).below Hb.out.size (fun y hy => by simp at hy; omega))
          have HmS : Hid ((wr.setCell ⟨w.heap.size + 1, m, none⟩ (.bool true)).rowIs (w.heap.size + 1) 4 (os.length + 1) (fun j => .bool (Im.metSet M m j))) := (Hm.out.set m (.bool true)).congr (fun j _ => by by_cases e : j = m <;> simp [Im.metSet, e])
          have HrS : Hid ((wr.setCell ⟨w.heap.size + 1, m, none⟩ (.bool true)).ownsRow w2.heap.size 3 1 (.slice (some ⟨gb, 0, none⟩) L'.length cp) L'.length (Kg.ints L')) := Kg.ownsRow_setOther Hr'.out (fun h => by have h6 := (Hr'.out.lt gb rfl).1; have h5 := Hlt2.out; have h7 : gb = w.heap.size + 1 := (Option.some.inj h).symm; omega) _
          have HsS : Hid (w2.heap.size ≤ (wr.setCell ⟨w.heap.size + 1, m, none⟩ (.bool true)).heap.size) := by show _ ≤ _; rw [World.size_setCell]; exact hws
          clear hM hmem hzq HW Hle Hr
          go_upto_region 11 with fail
          clear crow hfr clast z0
          generalize wr.setCell ⟨w.heap.size + 1, m, none⟩ (.bool true) = wS at *
          have z0 := HK.out _ HbS.out
          have BS : Hid (Below w.heap.size w wS) := l1.trans (HbS.out.mono l1.size)
          obtain ⟨a', cap', ea, hob⟩ := (Hg.out.below (BS.out.mono hn)).ob
          cases ea
          obtain ⟨hp', hr', q', off', rfl, hq', hc⟩ := hob (m - 1) x hos
          have c3' : wS.cell? ⟨q', off' + (m - 1) * 5 + 3, none⟩ = some x.vp := hc 3 (by omega)
          have HN0 := hp'
          obtain ⟨ap, cap', ep, -⟩ := hp'
          rw [ep] at c3' HN0
          have HN : Hid (∀ (j : Nat) u, (Kg.ints x.o.ps)[j]? = some u → ∃ ad, ap = some ad ∧ wS.cell? (ad.add j) = some u) := lrd_news HN0
          have hwm : wrap64 ((m : Int) - 1) = ((m - 1 : Nat) : Int) := by unfold wrap64; omega
          have hmi : ((m - 1 : Nat) : Int) < (os.length : Int) := by omega
          have hmn : m - 1 < os.length := by omega
          have Hle : Hid (L'.length + x.o.ps.length ≤ 1000000000000) := by have := Hll.out; have := Hsum.out; show _ ≤ _; omega
          clear hob hc hr' ep HN0 hos
          go_wp2_with (at_builtin; refine Kg.wpList_append_row rfl _ _ 24 rfl w2.heap.size 3 i0 (.int .i64 0) 8 Tryz.underlying24 HI.out.1 HI.out.2.1 HI.out.2.2.1 HI.out.2.2.2 rfl _ _ _ rfl HrS.out ap x.o.ps.length cap' (Kg.ints x.o.ps) (by simp [Kg.ints]) rfl HN.out (by simp [Kg.ints, Value.oneCell']) (by have := Hle.out; simp only [maxLen]; omega) (by have := Hle.out; omega) HsS.out ?_; intro v' w8 hown' hgrow _ hat _)
          have t8 : Kg.Touch (Value.slice (some ⟨gb, 0, none⟩) L'.length cp).ownBlock.toList wS w8 := Kg.Touch.grown hgrow (fun y hy => by rw [Option.mem_toList]; exact hy)
          have hgb : w2.heap.size ≤ gb := (HrS.out.lt gb rfl).1
          have Hm8 : w8.rowIs (w.heap.size + 1) 4 (os.length + 1) (fun j => .bool (Im.metSet M m j)) := HmS.out.of_block (t8.block _ HmS.out.lt (fun h => by rw [Option.mem_toList] at h; have h7 : gb = w.heap.size + 1 := Option.some.inj h; have := Hlt2.out; omega))
          have hl8 : (L' ++ x.o.ps).length = L'.length + x.o.ps.length := List.length_append
          obtain ⟨a8, c8, hv8⟩ := own_slI hown'
          subst hv8
          go_roundw
          case rel =>
            refine ⟨k + 1, L' ++ x.o.ps, Im.metSet M m, by go_num, hk1, ?_, Hm8, HW2, ?_, ?_, ?_⟩
            · show w8.ownsRow _ _ _ _ _ _
              rw [hl8]
              simp only [Kg.ints, List.map_append] at hown' ⊢
              exact hown'
            · have := Hll.out
              have := Hsum.out
              show _ ≤ _
              omega
            · exact HbS.out.trans (t8.below HbS.out.size (fun y hy => by rw [Option.mem_toList] at hy; have h7 : gb = y := Option.some.inj hy; have := HB2s.out; omega))
            · have := t8.size
              have := HsS.out
              omega
          case measure =>
            have h1 := seen_row Hm8 g.obs
            have h2 := seen_row Hm.out g.obs
            have h3 := Hsum.out
            rw [h1, h2]
            simp only [slen]
            omega
      · have hzi : ¬ z > 0 := hz0
        have HW2 : Hid (Im.Wl g M L' k) := Hsk.out (.inl (by omega))
        clear hmem
        go_wp2
        go_roundw
        case rel => exact ⟨k, L', M, rfl, hkn, Hr', Hm, HW2, (by have := Hll.out; show _ ≤ _; omega), Hb, hws⟩
        case measure => simp [slen]
structure MB (g : Im.Gr) : Prop where
  o : OM g
  s : SM g
  h : HM g
  f : FM g
  k : ∀ n, 1 ≤ n → n ≤ g.obs.length → Im.Known g n
structure Gln (os : List OL) (ts : List (Value × List (Value × List Int))) (g : Im.Gr) : Prop where
  s : Sln ts
  o : os.length ≤ 1000000000000
  h : g.hs.length ≤ 1000000000000
  r : g.rg.length ≤ 1000000000000
  q : g.qu.length ≤ 1000000000000
  e : (ents g).length + Im.wsum g.obs (fun _ => false) g.obs.length ≤ 1000000000000
theorem fins_bound (l : List Im.Ob) : ∀ z, z ∈ Im.fins l → 1 ≤ z ∧ z ≤ l.length := by
  have : ∀ (l : List Im.Ob) (i : Nat) z, z ∈ Im.finsFrom i l → (i : Int) + 1 ≤ z ∧ z ≤ (i : Int) + l.length := by
    intro l
    induction l with
    | nil => intro i z hz; simp [Im.finsFrom] at hz
    | cons x r ih =>
      intro i z hz
      simp only [Im.finsFrom] at hz
      split at hz
      · rcases List.mem_cons.1 hz with h | h
        · rw [h]; simp only [List.length_cons]; omega
        · have := ih _ _ h; simp only [List.length_cons]; omega
      · have := ih _ _ hz; simp only [List.length_cons]; omega
  intro z hz
  have := this l 0 z hz
  omega
theorem root_le {g : Im.Gr} (s : SM g) (h : HM g) (f : FM g) : ∀ z, Im.Root g z → z ≤ g.obs.length := by
  intro z hz
  rcases hz with ⟨t, ht, fr, hf, hz⟩ | hz | hz | hz
  · have := (s.ok t ht fr hf).2 z hz
    simp [inB] at this
    exact this.2
  · have := h.all z hz
    simp [inB] at this
    exact this.2
  · rw [f.reg] at hz
    exact (fins_bound _ z hz).2
  · have := f.que z hz
    simp [inB] at this
    exact this.2
theorem calls_def {f : Nat} {args : Array Value} {w : World} {p : Prop} (h : Calls Tryz.prog f args w fun e w' => ∃ r : Bool, e = .returned (.bool r) ∧ Below w.heap.size w w' ∧ (r = true ↔ p)) :
    (p → Calls Tryz.prog f args w fun e w' => e = .returned (.bool true) ∧ Below w.heap.size w w') ∧ (¬ p → Calls Tryz.prog f args w fun e w' => e = .returned (.bool false) ∧ Below w.heap.size w w') := by
  constructor
  · intro hp
    refine h.mono ?_
    rintro e w' ⟨r, rfl, hb, hr⟩
    exact ⟨by rw [hr.2 hp], hb⟩
  · intro hp
    refine h.mono ?_
    rintro e w' ⟨r, rfl, hb, hr⟩
    cases r with
    | true => exact absurd (hr.1 rfl) hp
    | false => exact ⟨rfl, hb⟩
theorem gMayBe_any (n0 : Nat) (w : World) (vo vs vh vr vq : Value) (os : List OL) (ts : List (Value × List (Value × List Int))) (g : Im.Gr) (hg : Grd n0 w vo vs vh vr vq os ts g) (hn : n0 ≤ w.heap.size) (hL : Laid w) (hl : Gln os ts g) :
    Calls Tryz.prog 94 #[.agg (gcs vo vs vh vr vq g.next)] w fun e w' => ∃ r : Bool, e = .returned (.bool r) ∧ Below w.heap.size w w' ∧ (r = true ↔ MB g) := by
  have l1 : Below w.heap.size w (w.alloc (.cells (gcs vo vs vh vr vq g.next) 27)) := Below.alloc (Below.refl _ _) (Nat.le_refl _) _
  have hy := fun j => cell_of_row _ _ j _ _ _ (heap_alloc_new w (.cells (gcs vo vs vh vr vq g.next) 27 (0, 0)))
  generalize hw1 : w.alloc (.cells (gcs vo vs vh vr vq g.next) 27) = w1 at *
  have e1 : w1.heap.size = w.heap.size + 1 := by rw [← hw1]; simp
  have HK : Hid (∀ w', Below w1.heap.size w1 w' → w'.cell? ⟨w.heap.size, 0, none⟩ = some vo ∧ w'.cell? ⟨w.heap.size, 1, none⟩ = some vs ∧ w'.cell? ⟨w.heap.size, 2, none⟩ = some vh ∧ w'.cell? ⟨w.heap.size, 3, none⟩ = some vr ∧ w'.cell? ⟨w.heap.size, 4, none⟩ = some vq ∧ w'.cell? ⟨w.heap.size, 5, none⟩ = some (.int .u64 g.next)) := fun w' b' => by
    have hlt : w.heap.size < w1.heap.size := by omega
    exact ⟨(b'.cell (p := ⟨w.heap.size, 0, none⟩) hlt).trans (hy 0), (b'.cell (p := ⟨w.heap.size, 1, none⟩) hlt).trans (hy 1), (b'.cell (p := ⟨w.heap.size, 2, none⟩) hlt).trans (hy 2), (b'.cell (p := ⟨w.heap.size, 3, none⟩) hlt).trans (hy 3), (b'.cell (p := ⟨w.heap.size, 4, none⟩) hlt).trans (hy 4), (b'.cell (p := ⟨w.heap.size, 5, none⟩) hlt).trans (hy 5)⟩
  have HG : Hid (∀ w', Below w1.heap.size w1 w' → Below w.heap.size w w' ∧ n0 ≤ w'.heap.size ∧ Grd n0 w' vo vs vh vr vq os ts g) := fun w' b' => by
    have h9 := l1.trans (b'.mono l1.size)
    exact ⟨h9, Nat.le_trans hn h9.size, hg.below (h9.mono hn)⟩
  have HLd : Hid (∀ w', Below w1.heap.size w1 w' → Laid w') := fun w' b' => hL.keep (HG.out w' b').1
  have Hl : Hid (Gln os ts g) := hl
  obtain ⟨k0, k1, k2, k3, k4, k5⟩ := HK.out w1 (Below.refl _ _)
  have HB1 : Hid (Below w1.heap.size w1 w1) := Below.refl _ _
  obtain ⟨aa, ac, rfl, -⟩ := hg.ob
  obtain ⟨ba, bc, rfl, -⟩ := hg.sl
  obtain ⟨ca, cc, rfl, -, -⟩ := hg.hs
  obtain ⟨da, dc, rfl, -, -⟩ := hg.rg
  obtain ⟨ea, ec, rfl, -, -⟩ := hg.qu
  have hO := calls_def (gObjects_any n0 w1 _ _ _ _ _ os ts g (HG.out w1 HB1.out).2.2 (HG.out w1 HB1.out).2.1 (HLd.out w1 HB1.out) (by have := Hl.out.o; omega))
  clear hg hL hl hy
  go_enter Tryz.func94, Tryz.ntmps94
  by_cases pO : OM g
  · have hc := hO.1 pO
    clear hO
    go_wp2_with fail
    refine hc.mono ?_
    rintro e w2 ⟨rfl, b2⟩
    have HB2 : Hid (Below w1.heap.size w1 w2) := HB1.out.trans (b2.mono HB1.out.size)
    clear hc b2 k0 k1 k2 k3 k4 k5
    obtain ⟨k0, k1, k2, k3, k4, k5⟩ := HK.out w2 HB2.out
    have hS := calls_def (gSlotsM_any n0 w2 _ _ _ _ _ os ts g (HG.out w2 HB2.out).2.2 (HG.out w2 HB2.out).2.1 Hl.out.s)
    by_cases pS : SM g
    · have hc := hS.1 pS
      clear hS
      go_wp2_with fail
      refine hc.mono ?_
      rintro e w3 ⟨rfl, b3⟩
      have HB3 : Hid (Below w1.heap.size w1 w3) := HB2.out.trans (b3.mono HB2.out.size)
      clear hc b3 k0 k1 k2 k3 k4 k5
      obtain ⟨k0, k1, k2, k3, k4, k5⟩ := HK.out w3 HB3.out
      have hH := calls_def (gHandles_any n0 w3 _ _ _ _ _ os ts g (HG.out w3 HB3.out).2.2 (HG.out w3 HB3.out).2.1 (by have := Hl.out.h; omega))
      by_cases pH : HM g
      · have hc := hH.1 pH
        clear hH
        go_wp2_with fail
        refine hc.mono ?_
        rintro e w4 ⟨rfl, b4⟩
        have HB4 : Hid (Below w1.heap.size w1 w4) := HB3.out.trans (b4.mono HB3.out.size)
        clear hc b4 k0 k1 k2 k3 k4 k5
        obtain ⟨k0, k1, k2, k3, k4, k5⟩ := HK.out w4 HB4.out
        have hF := calls_def (gFinalsM_any n0 w4 _ _ _ _ _ os ts g (HG.out w4 HB4.out).2.2 (HG.out w4 HB4.out).2.1 Hl.out.o (by have := Hl.out.r; omega) (by have := Hl.out.q; omega))
        by_cases pF : FM g
        · have hc := hF.1 pF
          clear hF
          go_wp2_with fail
          refine hc.mono ?_
          rintro e w5 ⟨rfl, b5⟩
          have HB5 : Hid (Below w1.heap.size w1 w5) := HB4.out.trans (b5.mono HB4.out.size)
          clear hc b5 k0 k1 k2 k3 k4 k5
          obtain ⟨k0, k1, k2, k3, k4, k5⟩ := HK.out w5 HB5.out
          have hA := gAll_any n0 w5 _ _ _ _ _ os ts g (HG.out w5 HB5.out).2.2 (HG.out w5 HB5.out).2.1 Hl.out.s Hl.out.o Hl.out.e (root_le pS pH pF) (fun o ho z hz => by
            have := pO.ptrs o ho z hz
            simp [inB] at this
            exact this.2)
          go_wp2_with fail
          refine hA.mono ?_
          rintro e w6 ⟨r, rfl, b6, hr⟩
          have HB6 : Hid (Below w1.heap.size w1 w6) := HB5.out.trans (b6.mono HB5.out.size)
          have Hr : Hid (r = true ↔ MB g) := hr.trans ⟨fun h => ⟨pO, pS, pH, pF, h⟩, fun h => h.k⟩
          clear hA hr b6
          go_wp2
          go_ret
          exact ⟨r, rfl, (HG.out _ HB6.out).1, Hr.out⟩
        · have hc := hF.2 pF
          have Hn : Hid (¬ MB g) := fun h => pF h.f
          clear hF
          go_wp2_with fail
          refine hc.mono ?_
          rintro e w5 ⟨rfl, b5⟩
          have HB5 : Hid (Below w1.heap.size w1 w5) := HB4.out.trans (b5.mono HB4.out.size)
          clear hc b5 k0 k1 k2 k3 k4 k5
          go_wp2
          go_ret
          exact ⟨false, rfl, (HG.out _ HB5.out).1, by simpa using Hn.out⟩
      · have hc := hH.2 pH
        have Hn : Hid (¬ MB g) := fun h => pH h.h
        clear hH
        go_wp2_with fail
        refine hc.mono ?_
        rintro e w4 ⟨rfl, b4⟩
        have HB4 : Hid (Below w1.heap.size w1 w4) := HB3.out.trans (b4.mono HB3.out.size)
        clear hc b4 k0 k1 k2 k3 k4 k5
        go_wp2
        go_ret
        exact ⟨false, rfl, (HG.out _ HB4.out).1, by simpa using Hn.out⟩
    · have hc := hS.2 pS
      have Hn : Hid (¬ MB g) := fun h => pS h.s
      clear hS
      go_wp2_with fail
      refine hc.mono ?_
      rintro e w3 ⟨rfl, b3⟩
      have HB3 : Hid (Below w1.heap.size w1 w3) := HB2.out.trans (b3.mono HB2.out.size)
      clear hc b3 k0 k1 k2 k3 k4 k5
      go_wp2
      go_ret
      exact ⟨false, rfl, (HG.out _ HB3.out).1, by simpa using Hn.out⟩
  · have hc := hO.2 pO
    have Hn : Hid (¬ MB g) := fun h => pO h.o
    clear hO
    go_wp2_with fail
    refine hc.mono ?_
    rintro e w2 ⟨rfl, b2⟩
    have HB2 : Hid (Below w1.heap.size w1 w2) := HB1.out.trans (b2.mono HB1.out.size)
    clear hc b2 k0 k1 k2 k3 k4 k5
    go_wp2
    go_ret
    exact ⟨false, rfl, (HG.out _ HB2.out).1, by simpa using Hn.out⟩
theorem iCheck_any (n0 : Nat) (w : World) (vo vs vh vr vq : Value) (os : List OL) (ts : List (Value × List (Value × List Int))) (g : Im.Gr) (hg : Grd n0 w vo vs vh vr vq os ts g) (hn : n0 ≤ w.heap.size) (hL : Laid w) (hl : Gln os ts g) :
    Calls Tryz.prog 50 #[.agg (gcs vo vs vh vr vq g.next)] w fun e w' => ∃ r : Int, e = .returned (.int .i64 r) ∧ Below w.heap.size w w' ∧ ((r = 0 ∧ MB g) ∨ (r = 164 ∧ ¬ MB g)) := by
  have l1 : Below w.heap.size w (w.alloc (.cells (gcs vo vs vh vr vq g.next) 27)) := Below.alloc (Below.refl _ _) (Nat.le_refl _) _
  have hy := fun j => cell_of_row _ _ j _ _ _ (heap_alloc_new w (.cells (gcs vo vs vh vr vq g.next) 27 (0, 0)))
  generalize hw1 : w.alloc (.cells (gcs vo vs vh vr vq g.next) 27) = w1 at *
  have k0 : w1.cell? ⟨w.heap.size, 0, none⟩ = some vo := hy 0
  have k1 : w1.cell? ⟨w.heap.size, 1, none⟩ = some vs := hy 1
  have k2 : w1.cell? ⟨w.heap.size, 2, none⟩ = some vh := hy 2
  have k3 : w1.cell? ⟨w.heap.size, 3, none⟩ = some vr := hy 3
  have k4 : w1.cell? ⟨w.heap.size, 4, none⟩ = some vq := hy 4
  have k5 : w1.cell? ⟨w.heap.size, 5, none⟩ = some (.int .u64 g.next) := hy 5
  have hm := gMayBe_any n0 w1 vo vs vh vr vq os ts g (hg.below (l1.mono hn)) (Nat.le_trans hn l1.size) (hL.keep l1) hl
  obtain ⟨aa, ac, rfl, -⟩ := hg.ob
  obtain ⟨ba, bc, rfl, -⟩ := hg.sl
  obtain ⟨ca, cc, rfl, -, -⟩ := hg.hs
  obtain ⟨da, dc, rfl, -, -⟩ := hg.rg
  obtain ⟨ea, ec, rfl, -, -⟩ := hg.qu
  clear hy hg hL hl
  go_enter Tryz.func50, Tryz.ntmps50
  go_wp2_with fail
  refine hm.mono ?_
  rintro e w2 ⟨r, rfl, b2, hr⟩
  have HB : Hid (Below w.heap.size w w2) := l1.trans (b2.mono l1.size)
  cases r with
  | true =>
    have Hr : Hid (MB g) := hr.1 rfl
    clear hm hr b2 k0 k1 k2 k3 k4 k5
    go_wp2
    go_ret
    exact ⟨0, rfl, HB.out, .inl ⟨rfl, Hr.out⟩⟩
  | false =>
    have Hr : Hid (¬ MB g) := fun h => Bool.noConfusion (hr.2 h)
    clear hm hr b2 k0 k1 k2 k3 k4 k5
    go_wp2
    go_ret
    exact ⟨164, rfl, HB.out, .inr ⟨rfl, Hr.out⟩⟩
end Go.Proofs.YtkekaifiahjljaaGreatDoor
