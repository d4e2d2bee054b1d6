import Derived.Test.YtckgcpoheodbcaaDoorIG7
import Derived.Test.YtckgcpoheodbcaaDoorPKr
/-
  Images: slices.Grow of nothing, slices.Concat.
-/
set_option linter.unusedVariables false
set_option maxRecDepth 20000
namespace Go.Proofs.YtckgcpoheodbcaaDoor
open Go.RowKit Go.Shelf

theorem row_cut0 {w : World} {base e n g cap : Nat} {xs : List Value} (h : w.ownsRow base e 1 (.slice (some ⟨g, 0, none⟩) n cap) n xs) : w.ownsRow base e 1 (.slice (some ⟨g, 0, none⟩) 0 cap) 0 [] := by
  rcases h.2 with ⟨h1, h2⟩ | ⟨g', cap', cur, h1, h2, h3, h4, h5, h6, h7⟩
  · cases h1
  · cases h1
    exact ⟨rfl, .inr ⟨g, cap, cur, rfl, h2, h3, Nat.zero_le _, h5, h6, by simp⟩⟩

set_option maxHeartbeats 4000000 in
/-- Grow of nothing. -/
theorem slGrow_nil (n : Nat) (hn : n ≤ 1000000000000) (w : World) :
    Calls Tryd.prog 67 #[.slice none 0 0, .int .i64 n] w fun e w' => ∃ v, e = .returned v ∧ Below w.heap.size w w' ∧ w'.ownsRow w.heap.size 3 1 v 0 [] := by
  obtain ⟨i0, hi0, hj0, hj1, hj2⟩ := info_parts Kg.Tryd.infoInt
  have hn0 : ¬ (n : Int) < 0 := by omega
  by_cases h0 : 0 < n
  · have h0i : (n : Int) > 0 := by omega
    obtain ⟨v', w', hr, ho, hg, hb⟩ := run_zeros_own w w.heap.size 24 3 24 3 i0 (.int .i64 0) 8 .i64 .i64 Tryd.underlying24 (by kernel_rfl) hi0 hj0 hj1 hj2 rfl rfl (.slice none 0 0) 0 [] (World.ownsRow_nil _ _ _ _) n h0 (by simp only [maxLen]; omega) (by omega) (Nat.le_refl _)
    have HB : Hid (Below w.heap.size w w') := ⟨hg.os, hg.tape, hg.output, hg.size, fun k hk => hg.block k hk (fun e => by cases e)⟩
    rw [Nat.zero_add] at ho
    obtain ⟨gb, cp, rfl⟩ := Kg.ownsRow_some ho h0
    have Ho : Hid (w'.ownsRow w.heap.size 3 1 (.slice (some ⟨gb, 0, none⟩) 0 cp) 0 []) := row_cut0 ho
    clear ho hb hg hi0 hj0 hj1 hj2
    go_enter Tryd.func67, Tryd.ntmps67
    go_wp2_with (at_builtin; refine Lib.wpList_append_run _ rfl _ _ _ _ rfl _ _ rfl rfl _ _ hr ?_)
    clear hr
    go_wp2
    go_ret
    exact ⟨_, rfl, HB.out, Ho.out⟩
  · have h0e : n = 0 := by omega
    subst h0e
    go_enter Tryd.func67, Tryd.ntmps67
    go_wp2
    go_ret
    exact ⟨_, rfl, Below.refl _ _, World.ownsRow_nil _ _ _ _⟩

/-- All of them, one behind the other. -/
def flat (fs : List (Value × List Int)) : List Int := (fs.map (·.2)).flatten

theorem flat_snoc {fs : List (Value × List Int)} {k : Nat} {x : Value × List Int} (h : fs[k]? = some x) : flat (fs.take (k + 1)) = flat (fs.take k) ++ x.2 := by
  rw [take_snocL h]
  simp [flat]

theorem flat_len (fs : List (Value × List Int)) : (flat fs).length = fsum (fs.map (·.2)) := by
  simp [flat, fsum, List.length_flatten]

theorem lrd_news {n0 : Nat} {w : World} {a : Option Addr} {cap n : Nat} {xs : List Int} (h : Lrd n0 w (.slice a n cap) .i64 xs) : ∀ (j : Nat) u, (Kg.ints xs)[j]? = some u → ∃ ad, a = some ad ∧ w.cell? (ad.add j) = some u := by
  obtain ⟨a', cap', e, h2, h3⟩ := h
  cases e
  intro j u hj
  simp only [Kg.ints, List.getElem?_map] at hj
  cases hx : xs[j]? with
  | none => rw [hx] at hj; cases hj
  | some z =>
    rw [hx] at hj
    cases hj
    obtain ⟨q, off, rfl, -, h6⟩ := h3 j z hx
    exact ⟨_, rfl, by rw [Addr.add_lit]; exact h6⟩

set_option maxHeartbeats 4000000 in
/-- slices.Concat. -/
theorem slConcat_any (n0 : Nat) (v : Value) (fs : List (Value × List Int)) (w : World) (hv : Frd n0 w v fs) (hn : n0 ≤ w.heap.size) (hl : fs.length ≤ 4611686018427387904) (hs : fsum (fs.map (·.2)) ≤ 1000000000000) :
    Calls Tryd.prog 52 #[v] w fun e w' => ∃ v', e = .returned v' ∧ Below w.heap.size w w' ∧ w'.ownsRow w.heap.size 3 1 v' (flat fs).length (Kg.ints (flat fs)) := by
  obtain ⟨i0, hi0, hj0, hj1, hj2⟩ := info_parts Kg.Tryd.infoInt
  have HI : Hid (Tryd.prog.info? 3 = some i0 ∧ i0.zero = some (.int .i64 0) ∧ i0.size = 1 ∧ i0.bytes = 8) := ⟨hi0, hj0, hj1, hj2⟩
  clear hi0 hj0 hj1 hj2
  have Hv : Hid (Frd n0 w v fs) := hv
  obtain ⟨a, cap, rfl, -⟩ := hv
  go_enter Tryd.func52, Tryd.ntmps52
  go_wp2
  go_loopw [3, 11] (fun v3 v11 wr => ∃ k : Nat, k ≤ fs.length ∧ v11 = .int .i64 k ∧ v3 = .int .i64 (fsum ((fs.map (·.2)).take k)) ∧ w = wr) (fun _ v11 _ => fs.length - (intOf v11).toNat)
  case atStart => exact ⟨0, Nat.zero_le _, rfl, rfl, rfl⟩
  case round =>
    obtain ⟨k, hk, rfl, rfl, rfl⟩ := hrel
    by_cases hkl : k < fs.length
    · have hki : (k : Int) < (fs.length : Int) := by omega
      have hz : fs[k]? = some (fs[k]'hkl) := List.getElem?_eq_getElem hkl
      generalize fs[k]'hkl = x at hz
      obtain ⟨a', cap', ea, hob⟩ := Hv.out
      cases ea
      obtain ⟨hp, q, off, rfl, hq, hc⟩ := hob k x hz
      obtain ⟨ap, cp, ep, -⟩ := hp
      rw [ep] at hc
      have e9 : fsum ((fs.map (·.2)).take (k + 1)) = fsum ((fs.map (·.2)).take k) + x.2.length := by
        rw [take_snocL (o := x.2) (by rw [List.getElem?_map, hz]; rfl), fsum_snoc]
      have hle := fsum_take (fs.map (·.2)) (k + 1)
      have hle2 : fsum ((fs.map (·.2)).take k) + x.2.length ≤ 1000000000000 := by omega
      have hwr : wrap64 ((fsum ((fs.map (·.2)).take k) : Int) + (x.2.length : Int)) = (fsum ((fs.map (·.2)).take k) : Int) + (x.2.length : Int) := by unfold wrap64; omega
      have hng : ¬ ((fsum ((fs.map (·.2)).take k) : Int) + (x.2.length : Int) < 0) := by omega
      have He : Hid (fsum ((fs.map (·.2)).take (k + 1)) = fsum ((fs.map (·.2)).take k) + x.2.length) := e9
      clear e9 hle hob hz ep
      go_wp2
      go_roundw
      case rel =>
        exact ⟨k + 1, by omega, by go_num, by rw [He.out, Int.natCast_add], trivial⟩
      case measure => simp [intOf]; omega
    · have hki : ¬ (k : Int) < (fs.length : Int) := by omega
      have e9 : fsum ((fs.map (·.2)).take k) = fsum (fs.map (·.2)) := by rw [List.take_of_length_le (by simp; omega)]
      rw [e9]
      have hgr := slGrow_nil (fsum (fs.map (·.2))) hs w
      go_wp2_with fail
      refine hgr.mono ?_
      rintro e w2 ⟨v2, rfl, b2, o2⟩
      obtain ⟨a2, c2, hv2⟩ := own_slI o2
      subst hv2
      have Hb2 : Hid (Below w.heap.size w w2) := b2
      have Ho2 : Hid (w2.ownsRow w.heap.size 3 1 (.slice a2 0 c2) 0 []) := o2
      clear hgr b2 o2 e9
      go_wp2
      go_loopw [6, 27] (fun v6 v27 wr => ∃ k : Nat, k ≤ fs.length ∧ v27 = .int .i64 k ∧ Hid (wr.ownsRow w.heap.size 3 1 v6 (flat (fs.take k)).length (Kg.ints (flat (fs.take k)))) ∧ Hid (Below w.heap.size w wr)) (fun _ v27 _ => fs.length - (intOf v27).toNat)
      case atStart => exact ⟨0, Nat.zero_le _, rfl, Ho2.out, Hb2⟩
      case round =>
        obtain ⟨k, hk, rfl, Hr, Hb⟩ := hrel
        obtain ⟨a3, c3, hv3⟩ := own_slI Hr.out
        subst hv3
        by_cases hkl : k < fs.length
        · have hki : (k : Int) < (fs.length : Int) := by omega
          have hz : fs[k]? = some (fs[k]'hkl) := List.getElem?_eq_getElem hkl
          generalize fs[k]'hkl = x at hz
          obtain ⟨a', cap', ea, hob⟩ := Hv.out.below (Hb.out.mono hn)
          cases ea
          obtain ⟨hp, q, off, rfl, hq, hc⟩ := hob k x hz
          have Hp : Hid (Lrd n0 wr x.1 .i64 x.2) := hp
          obtain ⟨ap, cp, ep, -⟩ := hp
          rw [ep] at hc Hp
          have Hnews := lrd_news Hp.out
          have He : Hid (flat (fs.take (k + 1)) = flat (fs.take k) ++ x.2) := flat_snoc hz
          have Hle : Hid ((flat (fs.take k)).length + x.2.length ≤ 1000000000000) := by
            have h1 := fsum_take (fs.map (·.2)) (k + 1)
            rw [← List.map_take, ← flat_len, He.out, List.length_append] at h1
            show _ ≤ _
            omega
          have HN : Hid (∀ (j : Nat) u, (Kg.ints x.2)[j]? = some u → ∃ ad, ap = some ad ∧ wr.cell? (ad.add j) = some u) := Hnews
          clear Hnews hob hz ep
          go_wp2_with (at_builtin; refine Kg.wpList_append_row rfl _ _ 24 rfl w.heap.size 3 i0 (.int .i64 0) 8 Tryd.underlying24 HI.out.1 HI.out.2.1 HI.out.2.2.1 HI.out.2.2.2 rfl _ _ _ rfl Hr.out ap x.2.length cp (Kg.ints x.2) (by simp [Kg.ints]) rfl HN.out (by simp [Kg.ints, Value.oneCell']) (by have := Hle.out; simp only [maxLen]; omega) (by have := Hle.out; omega) Hb.out.size ?_; intro v' w8 hown' hgrow _ hat _)
          go_roundw
          case rel =>
            refine ⟨k + 1, by omega, by go_num, ?_, ?_⟩
            · show w8.ownsRow _ _ _ _ _ _
              rw [He.out]
              simpa [Kg.ints] using hown'
            · have t8 : Kg.Touch (Value.slice a3 (flat (fs.take k)).length c3).ownBlock.toList wr w8 := Kg.Touch.grown hgrow (fun y hy => by rw [Option.mem_toList]; exact hy)
              exact Hb.out.trans (t8.below Hb.out.size (fun y hy => by rw [Option.mem_toList] at hy; exact (Hr.out.lt y hy).1))
          case measure => simp [intOf]; omega
        · have hki : ¬ (k : Int) < (fs.length : Int) := by omega
          have e9 : fs.take k = fs := List.take_of_length_le (by omega)
          rw [e9] at Hr
          go_wp2
          go_ret
          exact ⟨_, rfl, Hb.out, Hr.out⟩

end Go.Proofs.YtckgcpoheodbcaaDoor

/-
  Images: entries.
-/
set_option linter.unusedVariables false
set_option maxRecDepth 20000
namespace Go.Proofs.YtckgcpoheodbcaaDoor
open Go.RowKit Go.Shelf

/-- What slots hold. -/
def slotsF (l : List (List (List Int))) : List Int := (l.map List.flatten).flatten
/-- What slots, handles, registry and queue hold. -/
def ents (g : Im.Gr) : List Int := (g.hs ++ (g.rg ++ g.qu)) ++ slotsF g.slots

theorem mem_slotsF (l : List (List (List Int))) (z : Int) : z ∈ slotsF l ↔ ∃ t, t ∈ l ∧ ∃ f, f ∈ t ∧ z ∈ f := by
  simp only [slotsF, List.mem_flatten, List.mem_map]
  constructor
  · rintro ⟨m, ⟨t, ht, rfl⟩, hz⟩
    obtain ⟨f, hf, hz⟩ := List.mem_flatten.1 hz
    exact ⟨t, ht, f, hf, hz⟩
  · rintro ⟨t, ht, f, hf, hz⟩
    exact ⟨t.flatten, ⟨t, ht, rfl⟩, List.mem_flatten.2 ⟨f, hf, hz⟩⟩

theorem mem_ents (g : Im.Gr) (z : Int) : z ∈ ents g ↔ Im.Root g z := by
  simp only [ents, List.mem_append, mem_slotsF, Im.Root]
  constructor
  · rintro ((h | h | h) | h)
    · exact .inr (.inl h)
    · exact .inr (.inr (.inl h))
    · exact .inr (.inr (.inr h))
    · exact .inl h
  · rintro (h | h | h | h)
    · exact .inr h
    · exact .inl (.inl h)
    · exact .inl (.inr (.inl h))
    · exact .inl (.inr (.inr h))

theorem slotsF_snoc {l : List (List (List Int))} {k : Nat} {t : List (List Int)} (h : l[k]? = some t) : slotsF (l.take (k + 1)) = slotsF (l.take k) ++ t.flatten := by
  rw [take_snocL h]
  simp [slotsF]

theorem slotsF_take (l : List (List (List Int))) (k : Nat) : (slotsF (l.take k)).length ≤ (slotsF l).length := by
  have h : slotsF l = slotsF (l.take k) ++ slotsF (l.drop k) := by
    have h9 : slotsF (l.take k ++ l.drop k) = slotsF (l.take k) ++ slotsF (l.drop k) := by
      unfold slotsF
      rw [List.map_append, List.flatten_append]
    rw [List.take_append_drop] at h9
    exact h9
  rw [h, List.length_append]
  omega

/-- A list, and what slots hold. -/
def en (E0 : List Int) (l : List (List (List Int))) : List Int := E0 ++ slotsF l

theorem frd_three {n0 : Nat} {w : World} {v1 v2 v3 : Value} {l1 l2 l3 : List Int} (h1 : Lrd n0 w v1 .i64 l1) (h2 : Lrd n0 w v2 .i64 l2) (h3 : Lrd n0 w v3 .i64 l3) (hn : n0 ≤ w.heap.size) :
    Frd (w.heap.size + 1) (w.alloc (.cells #[v1, v2, v3] 24)) (.slice (some ⟨w.heap.size, 0, none⟩) 3 3) [(v1, l1), (v2, l2), (v3, l3)] := by
  have hb : Below n0 w (w.alloc (.cells #[v1, v2, v3] 24)) := Below.alloc (Below.refl _ _) hn _
  have hy := fun j => cell_of_row _ _ j _ _ _ (heap_alloc_new w (.cells #[v1, v2, v3] 24 (0, 0)))
  refine ⟨_, _, rfl, fun i x hx => ?_⟩
  match i, hx with
  | 0, hx => cases hx; exact ⟨(h1.below hb).mono (by omega), _, _, rfl, Nat.lt_succ_self _, hy 0⟩
  | 1, hx => cases hx; exact ⟨(h2.below hb).mono (by omega), _, _, rfl, Nat.lt_succ_self _, hy 1⟩
  | 2, hx => cases hx; exact ⟨(h3.below hb).mono (by omega), _, _, rfl, Nat.lt_succ_self _, hy 2⟩
  | i + 3, hx => cases hx

set_option maxHeartbeats 4000000 in
/-- entries. -/
theorem gEntries_any (n0 : Nat) (w : World) (vo vs vh vr vq : Value) (os : List OL) (ts : List (Value × List (Value × List Int))) (g : Im.Gr) (hg : Grd n0 w vo vs vh vr vq os ts g) (hn : n0 ≤ w.heap.size) (hs : Sln ts) (hlen : (ents g).length ≤ 1000000000000) :
    Calls Tryd.prog 77 #[.agg (gcs vo vs vh vr vq g.next)] w fun e w' => ∃ v, e = .returned v ∧ Below w.heap.size w w' ∧ w'.ownsRow w.heap.size 3 1 v (ents g).length (Kg.ints (ents g)) := by
  obtain ⟨i0, hi0, hj0, hj1, hj2⟩ := info_parts Kg.Tryd.infoInt
  have HI : Hid (Tryd.prog.info? 3 = some i0 ∧ i0.zero = some (.int .i64 0) ∧ i0.size = 1 ∧ i0.bytes = 8) := ⟨hi0, hj0, hj1, hj2⟩
  clear hi0 hj0 hj1 hj2
  have l1 : Below w.heap.size w (w.alloc (.cells (gcs vo vs vh vr vq g.next) 27)) := Below.alloc (Below.refl _ _) (Nat.le_refl _) _
  have hy := fun j => cell_of_row _ _ j _ _ _ (heap_alloc_new w (.cells (gcs vo vs vh vr vq g.next) 27 (0, 0)))
  have y1 : (w.alloc (.cells (gcs vo vs vh vr vq g.next) 27)).cell? ⟨w.heap.size, 1, none⟩ = some vs := hy 1
  have y2 : (w.alloc (.cells (gcs vo vs vh vr vq g.next) 27)).cell? ⟨w.heap.size, 2, none⟩ = some vh := hy 2
  have y3 : (w.alloc (.cells (gcs vo vs vh vr vq g.next) 27)).cell? ⟨w.heap.size, 3, none⟩ = some vr := hy 3
  have y4 : (w.alloc (.cells (gcs vo vs vh vr vq g.next) 27)).cell? ⟨w.heap.size, 4, none⟩ = some vq := hy 4
  have hg1 := hg.below (l1.mono hn)
  have h3 := frd_three hg1.hs hg1.rg hg1.qu (Nat.le_trans hn l1.size)
  have Hg : Hid (Grd n0 w vo vs vh vr vq os ts g) := hg
  have Hs : Hid (Sln ts) := hs
  have hx := hg.sl
  obtain ⟨b, bcap, rfl, -⟩ := hx
  have hx := hg.hs
  obtain ⟨ah, hcap, rfl, -⟩ := hx
  have hx := hg.rg
  obtain ⟨ar, rcap, rfl, -⟩ := hx
  have hx := hg.qu
  obtain ⟨aq, qcap, rfl, -⟩ := hx
  have htl := hs.t
  have Hes : Hid (g.slots = ts.map (fun t => t.2.map (·.2))) := hg.es
  have Hel : Hid ((g.hs ++ (g.rg ++ g.qu)).length + (slotsF g.slots).length ≤ 1000000000000) := by rw [ents, List.length_append] at hlen; exact hlen
  clear hg hy hs hg1 hlen
  generalize hw1 : w.alloc (.cells (gcs vo (.slice b ts.length bcap) (.slice ah g.hs.length hcap) (.slice ar g.rg.length rcap) (.slice aq g.qu.length qcap) g.next) 27) = w1 at *
  have e1 : w1.heap.size = w.heap.size + 1 := by rw [← hw1]; simp
  have Ht : Hid (fsum ([(Value.slice ah g.hs.length hcap, g.hs), (Value.slice ar g.rg.length rcap, g.rg), (Value.slice aq g.qu.length qcap, g.qu)].map (·.2)) ≤ 1000000000000) := by
    have := Hel.out
    simp only [List.length_append] at this
    simp [fsum]
    show _ ≤ _
    omega
  have hcc := slConcat_any (w1.heap.size + 1) _ _ _ h3 (by simp) (by simp) Ht.out
  have l2 : Below w1.heap.size w1 (w1.alloc (.cells #[.slice ah g.hs.length hcap, .slice ar g.rg.length rcap, .slice aq g.qu.length qcap] 24)) := Below.alloc (Below.refl _ _) (Nat.le_refl _) _
  clear h3 Ht
  go_enter Tryd.func77, Tryd.ntmps77
  rw [e1] at hcc
  go_wp2_with fail
  refine hcc.mono ?_
  rintro e w2 ⟨v2, rfl, b2, o2⟩
  obtain ⟨a2, c2, hv2⟩ := own_slI o2
  subst hv2
  have B2 : Below w1.heap.size w1 w2 := l2.trans (b2.mono l2.size)
  have Hb2 : Hid (Below w1.heap.size w1 w2) := B2
  have ef : flat [(Value.slice ah g.hs.length hcap, g.hs), (Value.slice ar g.rg.length rcap, g.rg), (Value.slice aq g.qu.length qcap, g.qu)] = g.hs ++ (g.rg ++ g.qu) := by simp [flat]
  rw [ef] at o2
  rw [ef]
  have Ho2 : Hid (w2.ownsRow w1.heap.size 3 1 (.slice a2 (g.hs ++ (g.rg ++ g.qu)).length c2) (g.hs ++ (g.rg ++ g.qu)).length (Kg.ints (g.hs ++ (g.rg ++ g.qu)))) := Kg.row_base o2 (by simp)
  have z1 : w2.cell? ⟨w.heap.size, 1, none⟩ = some (.slice b ts.length bcap) := (B2.cell (p := ⟨w.heap.size, 1, none⟩) (by rw [e1]; exact Nat.lt_succ_self _)).trans y1
  clear hcc b2 o2 y1 y2 y3 y4 ef B2
  generalize hE0 : g.hs ++ (g.rg ++ g.qu) = E0 at *
  have HE0 : Hid (g.hs ++ (g.rg ++ g.qu) = E0) := hE0
  clear hE0
  go_wp2
  go_loopw [3, 17] (fun v3 v17 wr => ∃ k : Nat, k ≤ ts.length ∧ v17 = .int .i64 k ∧ Hid (wr.ownsRow w1.heap.size 3 1 v3 (en E0 (g.slots.take k)).length (Kg.ints (en E0 (g.slots.take k)))) ∧ Hid (Below w1.heap.size w1 wr)) (fun _ v17 _ => ts.length - (intOf v17).toNat)
  case atStart => exact ⟨0, Nat.zero_le _, rfl, by have h9 : en E0 (g.slots.take 0) = E0 := (by simp [en, slotsF]); show w2.ownsRow _ _ _ _ _ _; rw [h9]; exact Ho2.out, Hb2⟩
  case round =>
    obtain ⟨k, hk, rfl, Hr, Hb⟩ := hrel
    obtain ⟨a3, c3, hv3⟩ := own_slI Hr.out
    subst hv3
    have BW : Hid (Below w.heap.size w wr) := l1.trans (Hb.out.mono l1.size)
    by_cases hkl : k < ts.length
    · have hki : (k : Int) < (ts.length : Int) := by omega
      have hz : ts[k]? = some (ts[k]'hkl) := List.getElem?_eq_getElem hkl
      generalize ts[k]'hkl = x at hz
      obtain ⟨a', cap', ea, hob⟩ := (Hg.out.below (BW.out.mono hn)).sl
      cases ea
      obtain ⟨hp, q, off, rfl, hq, hc⟩ := hob k x hz
      have Hz : Hid (g.slots[k]? = some (x.2.map (·.2))) := by show _ = _; rw [Hes.out, List.getElem?_map, hz]; rfl
      have He : Hid (en E0 (g.slots.take (k + 1)) = (en E0 (g.slots.take k)) ++ flat x.2) := by show _ = _; rw [en, slotsF_snoc Hz.out, en, List.append_assoc]; rfl
      have Hle : Hid ((en E0 (g.slots.take k)).length + (flat x.2).length ≤ 1000000000000) := by
        have h1 := slotsF_take g.slots (k + 1)
        have h2 := congrArg List.length He.out
        have h4 := Hel.out
        simp only [en, List.length_append] at h2 h4 ⊢
        show _ ≤ _
        omega
      have hxs := Hs.out.f x (List.mem_of_getElem? hz)
      have hcc := slConcat_any n0 x.1 x.2 wr hp (Nat.le_trans hn BW.out.size) hxs.1 (by rw [← flat_len]; have := Hle.out; omega)
      obtain ⟨ap, cp, ep, -⟩ := hp
      rw [ep] at hc hcc
      clear hob hz ep hxs
      go_wp2_with fail
      refine hcc.mono ?_
      rintro e w5 ⟨v5, rfl, b5, o5⟩
      clear hcc
      obtain ⟨a5, c5, hv5⟩ := own_slI o5
      subst hv5
      have HN : Hid (∀ (j : Nat) u, (Kg.ints (flat x.2))[j]? = some u → ∃ ad, a5 = some ad ∧ w5.cell? (ad.add j) = some u) := lrd_news (Lrd.of_row (Kg.row_base o5 (Nat.zero_le _)))
      have Hr5 : Hid (w5.ownsRow w1.heap.size 3 1 (.slice a3 (en E0 (g.slots.take k)).length c3) (en E0 (g.slots.take k)).length (Kg.ints (en E0 (g.slots.take k)))) := Kg.row_keep2 Hr.out (Kg.Touch.of_below b5 []) (fun _ _ => by simp)
      have Hb5 : Hid (Below w1.heap.size w1 w5) := Hb.out.trans (b5.mono Hb.out.size)
      clear b5 o5 Hr
      go_wp2_with (at_builtin; refine Kg.wpList_append_row rfl _ _ 24 rfl w1.heap.size 3 i0 (.int .i64 0) 8 Tryd.underlying24 HI.out.1 HI.out.2.1 HI.out.2.2.1 HI.out.2.2.2 rfl _ _ _ rfl Hr5.out a5 (flat x.2).length c5 (Kg.ints (flat x.2)) (by simp [Kg.ints]) rfl HN.out (by simp [Kg.ints, Value.oneCell']) (by have := Hle.out; simp only [maxLen]; omega) (by have := Hle.out; omega) Hb5.out.size ?_; intro v' w8 hown' hgrow _ hat _)
      go_roundw
      case rel =>
        refine ⟨k + 1, by omega, by go_num, ?_, ?_⟩
        · show w8.ownsRow _ _ _ _ _ _
          rw [He.out]
          simp only [Kg.ints, List.map_append, List.length_append] at hown' ⊢
          exact hown'
        · have t8 : Kg.Touch (Value.slice a3 (en E0 (g.slots.take k)).length c3).ownBlock.toList w5 w8 := Kg.Touch.grown hgrow (fun y hy => by rw [Option.mem_toList]; exact hy)
          exact Hb5.out.trans (t8.below Hb5.out.size (fun y hy => by rw [Option.mem_toList] at hy; exact (Hr5.out.lt y hy).1))
      case measure => simp [intOf]; omega
    · have hki : ¬ (k : Int) < (ts.length : Int) := by omega
      have e9 : g.slots.take k = g.slots := List.take_of_length_le (by rw [Hes.out, List.length_map]; omega)
      rw [e9] at Hr
      have Hr9 : Hid (wr.ownsRow w1.heap.size 3 1 (.slice a3 (ents g).length c3) (ents g).length (Kg.ints (ents g))) := by
        have h9 : ents g = en E0 g.slots := by rw [ents, HE0.out, en]
        show wr.ownsRow _ _ _ _ _ _
        rw [h9]
        exact Hr.out
      have h10 : (en E0 g.slots).length = (ents g).length := by rw [ents, HE0.out, en]
      rw [e9, h10]
      clear Hr h10
      go_wp2
      go_ret
      exact ⟨_, rfl, BW.out, Kg.row_base Hr9.out l1.size⟩

end Go.Proofs.YtckgcpoheodbcaaDoor

/-
  Images: allKnown.
-/
set_option linter.unusedVariables false
set_option maxRecDepth 20000
namespace Go.Proofs.YtckgcpoheodbcaaDoor
open Go.RowKit Go.Shelf

def slen : Value → Nat
  | .slice _ n _ => n
  | _ => 0

theorem row_cutk {w : World} {base e n k g cap : Nat} {xs ys : List Value} (h : w.ownsRow base e 1 (.slice (some ⟨g, 0, none⟩) n cap) n xs) (hk : k ≤ n) (hy : ys = xs.take k) : w.ownsRow base e 1 (.slice (some ⟨g, 0, none⟩) k cap) k ys := by
  subst hy
  have hl := h.1
  rcases h.2 with ⟨h1, h2⟩ | ⟨g', cap', cur, h1, h2, h3, h4, h5, h6, h7⟩
  · cases h1
  · cases h1
    refine ⟨by rw [List.length_take]; omega, .inr ⟨g, cap, cur, rfl, h2, h3, by omega, h5, h6, ?_⟩⟩
    rw [← h7, List.take_take]
    congr 1
    omega

theorem own_cap {w : World} {base e n k s : Nat} {a : Option Addr} {cap : Nat} {xs : List Value} (h : w.ownsRow base e s (.slice a k cap) n xs) : n ≤ cap := by
  rcases h.2 with ⟨h1, h2⟩ | ⟨g', cap', cur, h1, h2, h3, h4, h5, h6, h7⟩
  · cases h1; omega
  · cases h1; exact h4

theorem wsum_congr {obs : List Im.Ob} {M N : Nat → Bool} : ∀ n, (∀ j, 1 ≤ j → j ≤ n → M j = N j) → Im.wsum obs M n = Im.wsum obs N n := by
  intro n
  induction n with
  | zero => intro _; rfl
  | succ n ih =>
    intro h
    unfold Im.wsum
    rw [ih (fun j h1 h2 => h j h1 (by omega)), h (n + 1) (by omega) (Nat.le_refl _)]

/-- The marks as the world has them. -/
def seen (w : World) (B : Nat) : Nat → Bool := fun j => match w.cell? ⟨B, j, none⟩ with
  | some (.bool b) => b
  | _ => false

theorem seen_row {w : World} {B n t : Nat} {M : Nat → Bool} (h : w.rowIs B t (n + 1) (fun j => .bool (M j))) (obs : List Im.Ob) : Im.wsum obs (seen w B) n = Im.wsum obs M n :=
  wsum_congr n (fun j _ h2 => by unfold seen; rw [h.cell (by omega)])

set_option maxHeartbeats 4000000 in
/-- allKnown. -/
theorem gAll_any (n0 : Nat) (w : World) (vo vs vh vr vq : Value) (os : List OL) (ts : List (Value × List (Value × List Int))) (g : Im.Gr) (hg : Grd n0 w vo vs vh vr vq os ts g) (hn : n0 ≤ w.heap.size) (hs : Sln ts) (hol : os.length ≤ 1000000000000)
    (hlen : (ents g).length + Im.wsum g.obs (fun _ => false) g.obs.length ≤ 1000000000000) (hq : ∀ z, Im.Root g z → z ≤ g.obs.length) (hp : ∀ o, o ∈ g.obs → ∀ z, z ∈ o.ps → z ≤ g.obs.length) :
    Calls Tryd.prog 62 #[.agg (gcs vo vs vh vr vq g.next)] w fun e w' => ∃ r : Bool, e = .returned (.bool r) ∧ Below w.heap.size w w' ∧ (r = true ↔ ∀ n, 1 ≤ n → n ≤ g.obs.length → Im.Known g n) := by
  obtain ⟨i0, hi0, hj0, hj1, hj2⟩ := info_parts Kg.Tryd.infoInt
  have HI : Hid (Tryd.prog.info? 3 = some i0 ∧ i0.zero = some (.int .i64 0) ∧ i0.size = 1 ∧ i0.bytes = 8) := ⟨hi0, hj0, hj1, hj2⟩
  clear hi0 hj0 hj1 hj2
  have l1 : Below w.heap.size w (w.alloc (.cells (gcs vo vs vh vr vq g.next) 27)) := Below.alloc (Below.refl _ _) (Nat.le_refl _) _
  have hy := fun j => cell_of_row _ _ j _ _ _ (heap_alloc_new w (.cells (gcs vo vs vh vr vq g.next) 27 (0, 0)))
  have y0 : (w.alloc (.cells (gcs vo vs vh vr vq g.next) 27)).cell? ⟨w.heap.size, 0, none⟩ = some vo := hy 0
  have y1 : (w.alloc (.cells (gcs vo vs vh vr vq g.next) 27)).cell? ⟨w.heap.size, 1, none⟩ = some vs := hy 1
  have y2 : (w.alloc (.cells (gcs vo vs vh vr vq g.next) 27)).cell? ⟨w.heap.size, 2, none⟩ = some vh := hy 2
  have y3 : (w.alloc (.cells (gcs vo vs vh vr vq g.next) 27)).cell? ⟨w.heap.size, 3, none⟩ = some vr := hy 3
  have y4 : (w.alloc (.cells (gcs vo vs vh vr vq g.next) 27)).cell? ⟨w.heap.size, 4, none⟩ = some vq := hy 4
  have y5 : (w.alloc (.cells (gcs vo vs vh vr vq g.next) 27)).cell? ⟨w.heap.size, 5, none⟩ = some (.int .u64 g.next) := hy 5
  have Hg : Hid (Grd n0 w vo vs vh vr vq os ts g) := hg
  have HEn : Hid (∀ w', Below w.heap.size w w' → Calls Tryd.prog 77 #[.agg (gcs vo vs vh vr vq g.next)] w' fun e w'' => ∃ v, e = .returned v ∧ Below w'.heap.size w' w'' ∧ w''.ownsRow w'.heap.size 3 1 v (ents g).length (Kg.ints (ents g))) := fun w' b' =>
    gEntries_any n0 w' vo vs vh vr vq os ts g (hg.below (b'.mono hn)) (Nat.le_trans hn b'.size) hs (by omega)
  have hx := hg.ob
  obtain ⟨a, cap, rfl, -⟩ := hx
  have hx := hg.sl
  obtain ⟨b, bcap, rfl, -⟩ := hx
  have hx := hg.hs
  obtain ⟨ah, hcap, rfl, -⟩ := hx
  have hx := hg.rg
  obtain ⟨ar, rcap, rfl, -⟩ := hx
  have hx := hg.qu
  obtain ⟨aq, qcap, rfl, -⟩ := hx
  have Heo : Hid (g.obs = os.map (·.o)) := hg.eo
  have Heol : Hid (g.obs.length = os.length) := by show _ = _; rw [hg.eo, List.length_map]
  have Hp : Hid (∀ o, o ∈ g.obs → ∀ z, z ∈ o.ps → z ≤ g.obs.length) := hp
  have HW0 : Hid (Im.Wl g (fun _ => false) (ents g) 0) := Im.Wl.start (mem_ents g) hq
  have Hlen : Hid ((ents g).length + Im.wsum g.obs (fun _ => false) os.length ≤ 1000000000000) := by rw [← Heol.out]; exact hlen
  clear hg hy hs hp hq hlen
  generalize hw1 : w.alloc (.cells (gcs (.slice a os.length cap) (.slice b ts.length bcap) (.slice ah g.hs.length hcap) (.slice ar g.rg.length rcap) (.slice aq g.qu.length qcap) g.next) 27) = w1 at *
  have e1 : w1.heap.size = w.heap.size + 1 := by rw [← hw1]; simp
  have hmk : ∀ w, (Instr.makeSlice 57 (.int .i64 ((os.length : Int) + 1)) (.int .i64 ((os.length : Int) + 1))).run Tryd.prog w = .ok (.slice (some ⟨w.heap.size, 0, none⟩) (os.length + 1) (os.length + 1)) (w.alloc (.cells (madeCells #[.bool false] (os.length + 1)) 4)) := fun w => make_bools (os.length + 1) (by omega) w
  have HR : Hid ((w1.alloc (.cells (madeCells #[.bool false] (os.length + 1)) 4)).rowIs w1.heap.size 4 (os.length + 1) (fun j => .bool ((fun _ => false) j))) := World.rowIs_made w1 (.bool false) (os.length + 1) 4
  have B2 : Below w1.heap.size w1 (w1.alloc (.cells (madeCells #[.bool false] (os.length + 1)) 4)) := Below.alloc (Below.refl _ _) (Nat.le_refl _) _
  have HK : Hid (∀ w', Below w1.heap.size w1 w' → w'.cell? ⟨w.heap.size, 0, none⟩ = some (.slice a os.length cap)) := fun w' b' => (b'.cell (p := ⟨w.heap.size, 0, none⟩) (by rw [e1]; exact Nat.lt_succ_self _)).trans y0
  have hlt : w.heap.size < w1.heap.size := by omega
  have q0 := HK.out _ B2
  have q1 := (B2.cell (p := ⟨w.heap.size, 1, none⟩) hlt).trans y1
  have q2 := (B2.cell (p := ⟨w.heap.size, 2, none⟩) hlt).trans y2
  have q3 := (B2.cell (p := ⟨w.heap.size, 3, none⟩) hlt).trans y3
  have q4 := (B2.cell (p := ⟨w.heap.size, 4, none⟩) hlt).trans y4
  have q5 := (B2.cell (p := ⟨w.heap.size, 5, none⟩) hlt).trans y5
  have B12 : Below w.heap.size w (w1.alloc (.cells (madeCells #[.bool false] (os.length + 1)) 4)) := l1.trans (B2.mono l1.size)
  have hen := HEn.out _ B12
  have HB2 : Hid (Below w1.heap.size w1 (w1.alloc (.cells (madeCells #[.bool false] (os.length + 1)) 4))) := B2
  clear B2 B12 hlt
  go_enter Tryd.func62, Tryd.ntmps62
  go_upto_region 2 with fail
  clear hmk y0 y1 y2 y3 y4 y5
  generalize w1.alloc (.cells (madeCells #[.bool false] (os.length + 1)) 4) = w2 at *
  rw [e1] at HR
  go_wp2_with fail
  refine hen.mono ?_
  rintro e w3 ⟨v3, rfl, b3, o3⟩
  have HB3 : Hid (Below w1.heap.size w1 w3) := HB2.out.trans (b3.mono HB2.out.size)
  have HR3 : Hid (w3.rowIs (w.heap.size + 1) 4 (os.length + 1) (fun j => .bool ((fun _ => false) j))) := HR.out.of_block (b3.block _ HR.out.lt)
  have Ho3 : Hid (w3.ownsRow w2.heap.size 3 1 v3 (ents g).length (Kg.ints (ents g))) := o3
  have Hlt2 : Hid (w.heap.size + 1 < w2.heap.size) := HR.out.lt
  have HB2s : Hid (w1.heap.size ≤ w2.heap.size) := HB2.out.size
  have Hs3 : Hid (w2.heap.size ≤ w3.heap.size) := b3.size
  obtain ⟨a3, c3, hv3⟩ := own_slI o3
  subst hv3
  clear hen b3 o3 HR HB2 q0 q1 q2 q3 q4 q5
  go_wp2
  go_loopw [4, 5] (fun v4 v5 wr => ∃ (k : Nat) (L : List Int) (M : Nat → Bool), v4 = .int .i64 k ∧ k ≤ os.length ∧ Hid (wr.ownsRow w2.heap.size 3 1 v5 L.length (Kg.ints L)) ∧ Hid (wr.rowIs (w.heap.size + 1) 4 (os.length + 1) (fun j => .bool (M j))) ∧ Hid (Im.Wl g M L k) ∧ Hid (L.length + Im.wsum g.obs M os.length ≤ 1000000000000) ∧ Hid (Below w1.heap.size w1 wr) ∧ w2.heap.size ≤ wr.heap.size) (fun _ v5 wr => slen v5 + Im.wsum g.obs (seen wr (w.heap.size + 1)) os.length)
  case atStart => exact ⟨0, ents g, fun _ => false, rfl, Nat.zero_le _, Ho3, HR3, HW0, Hlen, HB3, Hs3.out⟩
  case round =>
    obtain ⟨k, L, M, rfl, hkn, Hr, Hm, HW, Hle, Hb, hws⟩ := hrel
    obtain ⟨a4, c4, hv4⟩ := own_slI Hr.out
    subst hv4
    have z0 := HK.out _ Hb.out
    have BW : Hid (Below w.heap.size w wr) := l1.trans (Hb.out.mono l1.size)
    by_cases hL : L = []
    · subst hL
      have Hfin : Hid ((k = g.obs.length) ↔ ∀ n, 1 ≤ n → n ≤ g.obs.length → Im.Known g n) := HW.out.done Hp.out
      by_cases hke : k = os.length
      · have hki : ((k : Int) == (os.length : Int)) = true := by simp [hke]
        go_wp2
        go_ret
        exact ⟨true, rfl, BW.out, fun _ => Hfin.out.1 (by rw [Heol.out]; exact hke), fun _ => rfl⟩
      · have hki : ((k : Int) == (os.length : Int)) = false := by simp; omega
        go_wp2
        go_ret
        exact ⟨false, rfl, BW.out, ⟨fun h9 => Bool.noConfusion h9, fun h9 => absurd (by rw [← Heol.out]; exact Hfin.out.2 h9) hke⟩⟩
    · obtain ⟨L', z, rfl⟩ : ∃ L' z, L = L' ++ [z] := ⟨L.dropLast, L.getLast hL, (List.dropLast_concat_getLast hL).symm⟩
      have hz : (L' ++ [z]).length = L'.length + 1 := by simp
      rw [hz] at Hr Hle ⊢
      obtain ⟨gb, cp, ev⟩ := Kg.ownsRow_some Hr.out (by omega)
      rw [ev] at Hr ⊢
      clear ev hz hL a4 c4
      have hll : (0 : Int) < (L'.length : Int) + 1 := by omega
      have hll2 : ((L'.length : Int) + 1) > 0 := by omega
      have hcp : (L'.length : Int) ≤ (cp : Int) := by have := own_cap Hr.out; omega
      have hcp2 : L'.length ≤ cp := by omega
      have hwl : wrap64 (L'.length : Int) = (L'.length : Int) := by unfold wrap64; have := Hle.out; omega
      have clast : wr.cell? ⟨gb, L'.length, none⟩ = some (.int .i64 z) := by
        have h9 := Hr.out.cells (g := gb) rfl L'.length (.int .i64 z) (by simp [Kg.ints])
        rw [Addr.add_lit, Nat.zero_add] at h9
        exact h9
      have Hr' : Hid (wr.ownsRow w2.heap.size 3 1 (.slice (some ⟨gb, 0, none⟩) L'.length cp) L'.length (Kg.ints L')) := row_cutk Hr.out (by omega) (by simp [Kg.ints])
      have hmem : ∀ y, y ∈ L' ++ [z] ↔ y = z ∨ y ∈ L' := fun y => by simp [or_comm]
      have Hsk : Hid ((z ≤ 0 ∨ M z.toNat = true) → Im.Wl g M L' k) := fun h9 => HW.out.skip hmem h9
      have Hll : Hid (L'.length + 1 + Im.wsum g.obs M os.length ≤ 1000000000000) := Hle
      by_cases hz0 : 0 < z
      · have hzq : z ≤ g.obs.length := HW.out.q z (by simp)
        obtain ⟨m, rfl⟩ : ∃ m : Nat, z = m := ⟨z.toNat, by omega⟩
        have hm1 : 1 ≤ m := by omega
        have hm2 : m ≤ os.length := by have := Heol.out; omega
        have hm3 : (m : Int) < (os.length : Int) + 1 := by omega
        have hm4 : m < os.length + 1 := by omega
        have hzi : (m : Int) > 0 := hz0
        have crow : wr.cell? ⟨w.heap.size + 1, m, none⟩ = some (.bool (M m)) := Hm.out.cell hm4
        cases hM : M m with
        | true =>
          rw [hM] at crow
          have HW2 : Hid (Im.Wl g M L' k) := Hsk.out (.inr (by simpa using hM))
          clear hM hmem hzq
          go_wp2
          go_roundw
          case rel => exact ⟨k, L', M, rfl, hkn, Hr', Hm, HW2, (by have := Hll.out; show _ ≤ _; omega), Hb, hws⟩
          case measure => simp [slen]
        | false =>
          rw [hM] at crow
          have hos : os[m - 1]? = some (os[m - 1]'(by omega)) := List.getElem?_eq_getElem (by omega)
          generalize os[m - 1]'(by omega) = x at hos
          have Hob : Hid (g.obs[(m : Int).toNat - 1]? = some x.o) := by
            show _ = _
            rw [show (m : Int).toNat - 1 = m - 1 by omega, Heo.out, List.getElem?_map, hos]; rfl
          have HW2 : Hid (Im.Wl g (Im.metSet M m) (L' ++ x.o.ps) (k + 1)) := by
            have h9 := HW.out.take (pd' := L' ++ x.o.ps) (z := (m : Int)) (o := x.o) (fun y hy => by rcases (hmem y).1 hy with h | h; exact .inl h; exact .inr (List.mem_append_left _ h)) Hob.out (fun y hy => List.mem_append_right _ hy) (fun y hy => by rcases List.mem_append.1 hy with h | h; exact .inl ((hmem y).2 (.inr h)); exact .inr h) (fun y hy => Hp.out x.o (List.mem_of_getElem? Hob.out) y hy) (by simp) hz0 (by simpa using hM)
            show Im.Wl _ _ _ _
            simpa using h9
          have Hsum : Hid (Im.wsum g.obs (Im.metSet M m) os.length + x.o.ps.length = Im.wsum g.obs M os.length) := by
            have h9 := Im.wsum_set (obs := g.obs) (M := M) (k := m) (o := x.o) hM hm1 (by have := Hob.out; simpa using this) os.length hm2
            exact h9
          have hk1 : k + 1 ≤ os.length := by
            have h9 := HW2.out.k
            have h8 := Im.cnt_le (Im.metSet M m) g.obs.length
            have := Heol.out
            omega
          have hfr : wr.frozen? ⟨w.heap.size + 1, m, none⟩ = false := Hm.out.frozen m
          have HbS : Hid (Below w1.heap.size w1 (wr.setCell ⟨w.heap.size + 1, m, none⟩ (.bool true))) := Hb.out.trans ((Kg.Touch.setCell (F := [w.heap.size + 1]) wr ⟨w.heap.size + 1, m, none⟩ _ (by simp)).below Hb.out.size (fun y hy => by simp at hy; omega))
          have HmS : Hid ((wr.setCell ⟨w.heap.size + 1, m, none⟩ (.bool true)).rowIs (w.heap.size + 1) 4 (os.length + 1) (fun j => .bool (Im.metSet M m j))) := (Hm.out.set m (.bool true)).congr (fun j _ => by by_cases e : j = m <;> simp [Im.metSet, e])
          have HrS : Hid ((wr.setCell ⟨w.heap.size + 1, m, none⟩ (.bool true)).ownsRow w2.heap.size 3 1 (.slice (some ⟨gb, 0, none⟩) L'.length cp) L'.length (Kg.ints L')) := Kg.ownsRow_setOther Hr'.out (fun h => by have h6 := (Hr'.out.lt gb rfl).1; have h5 := Hlt2.out; have h7 : gb = w.heap.size + 1 := (Option.some.inj h).symm; omega) _
          have HsS : Hid (w2.heap.size ≤ (wr.setCell ⟨w.heap.size + 1, m, none⟩ (.bool true)).heap.size) := by show _ ≤ _; rw [World.size_setCell]; exact hws
          clear hM hmem hzq HW Hle Hr
          go_upto_region 11 with fail
          clear crow hfr clast z0
          generalize wr.setCell ⟨w.heap.size + 1, m, none⟩ (.bool true) = wS at *
          have z0 := HK.out _ HbS.out
          have BS : Hid (Below w.heap.size w wS) := l1.trans (HbS.out.mono l1.size)
          obtain ⟨a', cap', ea, hob⟩ := (Hg.out.below (BS.out.mono hn)).ob
          cases ea
          obtain ⟨hp', hr', q', off', rfl, hq', hc⟩ := hob (m - 1) x hos
          have c3' : wS.cell? ⟨q', off' + (m - 1) * 5 + 3, none⟩ = some x.vp := hc 3 (by omega)
          have HN0 := hp'
          obtain ⟨ap, cap', ep, -⟩ := hp'
          rw [ep] at c3' HN0
          have HN : Hid (∀ (j : Nat) u, (Kg.ints x.o.ps)[j]? = some u → ∃ ad, ap = some ad ∧ wS.cell? (ad.add j) = some u) := lrd_news HN0
          have hwm : wrap64 ((m : Int) - 1) = ((m - 1 : Nat) : Int) := by unfold wrap64; omega
          have hmi : ((m - 1 : Nat) : Int) < (os.length : Int) := by omega
          have hmn : m - 1 < os.length := by omega
          have Hle : Hid (L'.length + x.o.ps.length ≤ 1000000000000) := by have := Hll.out; have := Hsum.out; show _ ≤ _; omega
          clear hob hc hr' ep HN0 hos
          go_wp2_with (at_builtin; refine Kg.wpList_append_row rfl _ _ 24 rfl w2.heap.size 3 i0 (.int .i64 0) 8 Tryd.underlying24 HI.out.1 HI.out.2.1 HI.out.2.2.1 HI.out.2.2.2 rfl _ _ _ rfl HrS.out ap x.o.ps.length cap' (Kg.ints x.o.ps) (by simp [Kg.ints]) rfl HN.out (by simp [Kg.ints, Value.oneCell']) (by have := Hle.out; simp only [maxLen]; omega) (by have := Hle.out; omega) HsS.out ?_; intro v' w8 hown' hgrow _ hat _)
          have t8 : Kg.Touch (Value.slice (some ⟨gb, 0, none⟩) L'.length cp).ownBlock.toList wS w8 := Kg.Touch.grown hgrow (fun y hy => by rw [Option.mem_toList]; exact hy)
          have hgb : w2.heap.size ≤ gb := (HrS.out.lt gb rfl).1
          have Hm8 : w8.rowIs (w.heap.size + 1) 4 (os.length + 1) (fun j => .bool (Im.metSet M m j)) := HmS.out.of_block (t8.block _ HmS.out.lt (fun h => by rw [Option.mem_toList] at h; have h7 : gb = w.heap.size + 1 := Option.some.inj h; have := Hlt2.out; omega))
          have hl8 : (L' ++ x.o.ps).length = L'.length + x.o.ps.length := List.length_append
          obtain ⟨a8, c8, hv8⟩ := own_slI hown'
          subst hv8
          go_roundw
          case rel =>
            refine ⟨k + 1, L' ++ x.o.ps, Im.metSet M m, by go_num, hk1, ?_, Hm8, HW2, ?_, ?_, ?_⟩
            · show w8.ownsRow _ _ _ _ _ _
              rw [hl8]
              simp only [Kg.ints, List.map_append] at hown' ⊢
              exact hown'
            · have := Hll.out
              have := Hsum.out
              show _ ≤ _
              omega
            · exact HbS.out.trans (t8.below HbS.out.size (fun y hy => by rw [Option.mem_toList] at hy; have h7 : gb = y := Option.some.inj hy; have := HB2s.out; omega))
            · have := t8.size
              have := HsS.out
              omega
          case measure =>
            have h1 := seen_row Hm8 g.obs
            have h2 := seen_row Hm.out g.obs
            have h3 := Hsum.out
            rw [h1, h2]
            simp only [slen]
            omega
      · have hzi : ¬ z > 0 := hz0
        have HW2 : Hid (Im.Wl g M L' k) := Hsk.out (.inl (by omega))
        clear hmem
        go_wp2
        go_roundw
        case rel => exact ⟨k, L', M, rfl, hkn, Hr', Hm, HW2, (by have := Hll.out; show _ ≤ _; omega), Hb, hws⟩
        case measure => simp [slen]

end Go.Proofs.YtckgcpoheodbcaaDoor

/-
  Images: MayBe, Check.
-/
set_option linter.unusedVariables false
set_option maxRecDepth 20000
namespace Go.Proofs.YtckgcpoheodbcaaDoor
open Go.RowKit Go.Shelf

/-- Which graphs may be. -/
structure MB (g : Im.Gr) : Prop where
  o : OM g
  s : SM g
  h : HM g
  f : FM g
  k : ∀ n, 1 ≤ n → n ≤ g.obs.length → Im.Known g n

/-- What a graph's lists may be long. -/
structure Gln (os : List OL) (ts : List (Value × List (Value × List Int))) (g : Im.Gr) : Prop where
  s : Sln ts
  o : os.length ≤ 1000000000000
  h : g.hs.length ≤ 1000000000000
  r : g.rg.length ≤ 1000000000000
  q : g.qu.length ≤ 1000000000000
  e : (ents g).length + Im.wsum g.obs (fun _ => false) g.obs.length ≤ 1000000000000

theorem fins_bound (l : List Im.Ob) : ∀ z, z ∈ Im.fins l → 1 ≤ z ∧ z ≤ l.length := by
  have : ∀ (l : List Im.Ob) (i : Nat) z, z ∈ Im.finsFrom i l → (i : Int) + 1 ≤ z ∧ z ≤ (i : Int) + l.length := by
    intro l
    induction l with
    | nil => intro i z hz; simp [Im.finsFrom] at hz
    | cons x r ih =>
      intro i z hz
      simp only [Im.finsFrom] at hz
      split at hz
      · rcases List.mem_cons.1 hz with h | h
        · rw [h]; simp only [List.length_cons]; omega
        · have := ih _ _ h; simp only [List.length_cons]; omega
      · have := ih _ _ hz; simp only [List.length_cons]; omega
  intro z hz
  have := this l 0 z hz
  omega

theorem root_le {g : Im.Gr} (s : SM g) (h : HM g) (f : FM g) : ∀ z, Im.Root g z → z ≤ g.obs.length := by
  intro z hz
  rcases hz with ⟨t, ht, fr, hf, hz⟩ | hz | hz | hz
  · have := (s.ok t ht fr hf).2 z hz
    simp [inB] at this
    exact this.2
  · have := h.all z hz
    simp [inB] at this
    exact this.2
  · rw [f.reg] at hz
    exact (fins_bound _ z hz).2
  · have := f.que z hz
    simp [inB] at this
    exact this.2

theorem calls_def {f : Nat} {args : Array Value} {w : World} {p : Prop} (h : Calls Tryd.prog f args w fun e w' => ∃ r : Bool, e = .returned (.bool r) ∧ Below w.heap.size w w' ∧ (r = true ↔ p)) :
    (p → Calls Tryd.prog f args w fun e w' => e = .returned (.bool true) ∧ Below w.heap.size w w') ∧ (¬ p → Calls Tryd.prog f args w fun e w' => e = .returned (.bool false) ∧ Below w.heap.size w w') := by
  constructor
  · intro hp
    refine h.mono ?_
    rintro e w' ⟨r, rfl, hb, hr⟩
    exact ⟨by rw [hr.2 hp], hb⟩
  · intro hp
    refine h.mono ?_
    rintro e w' ⟨r, rfl, hb, hr⟩
    cases r with
    | true => exact absurd (hr.1 rfl) hp
    | false => exact ⟨rfl, hb⟩

set_option maxHeartbeats 4000000 in
/-- MayBe. -/
theorem gMayBe_any (n0 : Nat) (w : World) (vo vs vh vr vq : Value) (os : List OL) (ts : List (Value × List (Value × List Int))) (g : Im.Gr) (hg : Grd n0 w vo vs vh vr vq os ts g) (hn : n0 ≤ w.heap.size) (hL : Laid w) (hl : Gln os ts g) :
    Calls Tryd.prog 42 #[.agg (gcs vo vs vh vr vq g.next)] w fun e w' => ∃ r : Bool, e = .returned (.bool r) ∧ Below w.heap.size w w' ∧ (r = true ↔ MB g) := by
  have l1 : Below w.heap.size w (w.alloc (.cells (gcs vo vs vh vr vq g.next) 27)) := Below.alloc (Below.refl _ _) (Nat.le_refl _) _
  have hy := fun j => cell_of_row _ _ j _ _ _ (heap_alloc_new w (.cells (gcs vo vs vh vr vq g.next) 27 (0, 0)))
  generalize hw1 : w.alloc (.cells (gcs vo vs vh vr vq g.next) 27) = w1 at *
  have e1 : w1.heap.size = w.heap.size + 1 := by rw [← hw1]; simp
  have HK : Hid (∀ w', Below w1.heap.size w1 w' → w'.cell? ⟨w.heap.size, 0, none⟩ = some vo ∧ w'.cell? ⟨w.heap.size, 1, none⟩ = some vs ∧ w'.cell? ⟨w.heap.size, 2, none⟩ = some vh ∧ w'.cell? ⟨w.heap.size, 3, none⟩ = some vr ∧ w'.cell? ⟨w.heap.size, 4, none⟩ = some vq ∧ w'.cell? ⟨w.heap.size, 5, none⟩ = some (.int .u64 g.next)) := fun w' b' => by
    have hlt : w.heap.size < w1.heap.size := by omega
    exact ⟨(b'.cell (p := ⟨w.heap.size, 0, none⟩) hlt).trans (hy 0), (b'.cell (p := ⟨w.heap.size, 1, none⟩) hlt).trans (hy 1), (b'.cell (p := ⟨w.heap.size, 2, none⟩) hlt).trans (hy 2), (b'.cell (p := ⟨w.heap.size, 3, none⟩) hlt).trans (hy 3), (b'.cell (p := ⟨w.heap.size, 4, none⟩) hlt).trans (hy 4), (b'.cell (p := ⟨w.heap.size, 5, none⟩) hlt).trans (hy 5)⟩
  have HG : Hid (∀ w', Below w1.heap.size w1 w' → Below w.heap.size w w' ∧ n0 ≤ w'.heap.size ∧ Grd n0 w' vo vs vh vr vq os ts g) := fun w' b' => by
    have h9 := l1.trans (b'.mono l1.size)
    exact ⟨h9, Nat.le_trans hn h9.size, hg.below (h9.mono hn)⟩
  have HLd : Hid (∀ w', Below w1.heap.size w1 w' → Laid w') := fun w' b' => hL.keep (HG.out w' b').1
  have Hl : Hid (Gln os ts g) := hl
  obtain ⟨k0, k1, k2, k3, k4, k5⟩ := HK.out w1 (Below.refl _ _)
  have HB1 : Hid (Below w1.heap.size w1 w1) := Below.refl _ _
  obtain ⟨aa, ac, rfl, -⟩ := hg.ob
  obtain ⟨ba, bc, rfl, -⟩ := hg.sl
  obtain ⟨ca, cc, rfl, -, -⟩ := hg.hs
  obtain ⟨da, dc, rfl, -, -⟩ := hg.rg
  obtain ⟨ea, ec, rfl, -, -⟩ := hg.qu
  have hO := calls_def (gObjects_any n0 w1 _ _ _ _ _ os ts g (HG.out w1 HB1.out).2.2 (HG.out w1 HB1.out).2.1 (HLd.out w1 HB1.out) (by have := Hl.out.o; omega))
  clear hg hL hl hy
  go_enter Tryd.func42, Tryd.ntmps42
  by_cases pO : OM g
  · have hc := hO.1 pO
    clear hO
    go_wp2_with fail
    refine hc.mono ?_
    rintro e w2 ⟨rfl, b2⟩
    have HB2 : Hid (Below w1.heap.size w1 w2) := HB1.out.trans (b2.mono HB1.out.size)
    clear hc b2 k0 k1 k2 k3 k4 k5
    obtain ⟨k0, k1, k2, k3, k4, k5⟩ := HK.out w2 HB2.out
    have hS := calls_def (gSlotsM_any n0 w2 _ _ _ _ _ os ts g (HG.out w2 HB2.out).2.2 (HG.out w2 HB2.out).2.1 Hl.out.s)
    by_cases pS : SM g
    · have hc := hS.1 pS
      clear hS
      go_wp2_with fail
      refine hc.mono ?_
      rintro e w3 ⟨rfl, b3⟩
      have HB3 : Hid (Below w1.heap.size w1 w3) := HB2.out.trans (b3.mono HB2.out.size)
      clear hc b3 k0 k1 k2 k3 k4 k5
      obtain ⟨k0, k1, k2, k3, k4, k5⟩ := HK.out w3 HB3.out
      have hH := calls_def (gHandles_any n0 w3 _ _ _ _ _ os ts g (HG.out w3 HB3.out).2.2 (HG.out w3 HB3.out).2.1 (by have := Hl.out.h; omega))
      by_cases pH : HM g
      · have hc := hH.1 pH
        clear hH
        go_wp2_with fail
        refine hc.mono ?_
        rintro e w4 ⟨rfl, b4⟩
        have HB4 : Hid (Below w1.heap.size w1 w4) := HB3.out.trans (b4.mono HB3.out.size)
        clear hc b4 k0 k1 k2 k3 k4 k5
        obtain ⟨k0, k1, k2, k3, k4, k5⟩ := HK.out w4 HB4.out
        have hF := calls_def (gFinalsM_any n0 w4 _ _ _ _ _ os ts g (HG.out w4 HB4.out).2.2 (HG.out w4 HB4.out).2.1 Hl.out.o (by have := Hl.out.r; omega) (by have := Hl.out.q; omega))
        by_cases pF : FM g
        · have hc := hF.1 pF
          clear hF
          go_wp2_with fail
          refine hc.mono ?_
          rintro e w5 ⟨rfl, b5⟩
          have HB5 : Hid (Below w1.heap.size w1 w5) := HB4.out.trans (b5.mono HB4.out.size)
          clear hc b5 k0 k1 k2 k3 k4 k5
          obtain ⟨k0, k1, k2, k3, k4, k5⟩ := HK.out w5 HB5.out
          have hA := gAll_any n0 w5 _ _ _ _ _ os ts g (HG.out w5 HB5.out).2.2 (HG.out w5 HB5.out).2.1 Hl.out.s Hl.out.o Hl.out.e (root_le pS pH pF) (fun o ho z hz => by
            have := pO.ptrs o ho z hz
            simp [inB] at this
            exact this.2)
          go_wp2_with fail
          refine hA.mono ?_
          rintro e w6 ⟨r, rfl, b6, hr⟩
          have HB6 : Hid (Below w1.heap.size w1 w6) := HB5.out.trans (b6.mono HB5.out.size)
          have Hr : Hid (r = true ↔ MB g) := hr.trans ⟨fun h => ⟨pO, pS, pH, pF, h⟩, fun h => h.k⟩
          clear hA hr b6
          go_wp2
          go_ret
          exact ⟨r, rfl, (HG.out _ HB6.out).1, Hr.out⟩
        · have hc := hF.2 pF
          have Hn : Hid (¬ MB g) := fun h => pF h.f
          clear hF
          go_wp2_with fail
          refine hc.mono ?_
          rintro e w5 ⟨rfl, b5⟩
          have HB5 : Hid (Below w1.heap.size w1 w5) := HB4.out.trans (b5.mono HB4.out.size)
          clear hc b5 k0 k1 k2 k3 k4 k5
          go_wp2
          go_ret
          exact ⟨false, rfl, (HG.out _ HB5.out).1, by simpa using Hn.out⟩
      · have hc := hH.2 pH
        have Hn : Hid (¬ MB g) := fun h => pH h.h
        clear hH
        go_wp2_with fail
        refine hc.mono ?_
        rintro e w4 ⟨rfl, b4⟩
        have HB4 : Hid (Below w1.heap.size w1 w4) := HB3.out.trans (b4.mono HB3.out.size)
        clear hc b4 k0 k1 k2 k3 k4 k5
        go_wp2
        go_ret
        exact ⟨false, rfl, (HG.out _ HB4.out).1, by simpa using Hn.out⟩
    · have hc := hS.2 pS
      have Hn : Hid (¬ MB g) := fun h => pS h.s
      clear hS
      go_wp2_with fail
      refine hc.mono ?_
      rintro e w3 ⟨rfl, b3⟩
      have HB3 : Hid (Below w1.heap.size w1 w3) := HB2.out.trans (b3.mono HB2.out.size)
      clear hc b3 k0 k1 k2 k3 k4 k5
      go_wp2
      go_ret
      exact ⟨false, rfl, (HG.out _ HB3.out).1, by simpa using Hn.out⟩
  · have hc := hO.2 pO
    have Hn : Hid (¬ MB g) := fun h => pO h.o
    clear hO
    go_wp2_with fail
    refine hc.mono ?_
    rintro e w2 ⟨rfl, b2⟩
    have HB2 : Hid (Below w1.heap.size w1 w2) := HB1.out.trans (b2.mono HB1.out.size)
    clear hc b2 k0 k1 k2 k3 k4 k5
    go_wp2
    go_ret
    exact ⟨false, rfl, (HG.out _ HB2.out).1, by simpa using Hn.out⟩

set_option maxHeartbeats 1000000 in
/-- image.Check. -/
theorem iCheck_any (n0 : Nat) (w : World) (vo vs vh vr vq : Value) (os : List OL) (ts : List (Value × List (Value × List Int))) (g : Im.Gr) (hg : Grd n0 w vo vs vh vr vq os ts g) (hn : n0 ≤ w.heap.size) (hL : Laid w) (hl : Gln os ts g) :
    Calls Tryd.prog 30 #[.agg (gcs vo vs vh vr vq g.next)] w fun e w' => ∃ r : Int, e = .returned (.int .i64 r) ∧ Below w.heap.size w w' ∧ ((r = 0 ∧ MB g) ∨ (r = 164 ∧ ¬ MB g)) := by
  have l1 : Below w.heap.size w (w.alloc (.cells (gcs vo vs vh vr vq g.next) 27)) := Below.alloc (Below.refl _ _) (Nat.le_refl _) _
  have hy := fun j => cell_of_row _ _ j _ _ _ (heap_alloc_new w (.cells (gcs vo vs vh vr vq g.next) 27 (0, 0)))
  generalize hw1 : w.alloc (.cells (gcs vo vs vh vr vq g.next) 27) = w1 at *
  have k0 : w1.cell? ⟨w.heap.size, 0, none⟩ = some vo := hy 0
  have k1 : w1.cell? ⟨w.heap.size, 1, none⟩ = some vs := hy 1
  have k2 : w1.cell? ⟨w.heap.size, 2, none⟩ = some vh := hy 2
  have k3 : w1.cell? ⟨w.heap.size, 3, none⟩ = some vr := hy 3
  have k4 : w1.cell? ⟨w.heap.size, 4, none⟩ = some vq := hy 4
  have k5 : w1.cell? ⟨w.heap.size, 5, none⟩ = some (.int .u64 g.next) := hy 5
  have hm := gMayBe_any n0 w1 vo vs vh vr vq os ts g (hg.below (l1.mono hn)) (Nat.le_trans hn l1.size) (hL.keep l1) hl
  obtain ⟨aa, ac, rfl, -⟩ := hg.ob
  obtain ⟨ba, bc, rfl, -⟩ := hg.sl
  obtain ⟨ca, cc, rfl, -, -⟩ := hg.hs
  obtain ⟨da, dc, rfl, -, -⟩ := hg.rg
  obtain ⟨ea, ec, rfl, -, -⟩ := hg.qu
  clear hy hg hL hl
  go_enter Tryd.func30, Tryd.ntmps30
  go_wp2_with fail
  refine hm.mono ?_
  rintro e w2 ⟨r, rfl, b2, hr⟩
  have HB : Hid (Below w.heap.size w w2) := l1.trans (b2.mono l1.size)
  cases r with
  | true =>
    have Hr : Hid (MB g) := hr.1 rfl
    clear hm hr b2 k0 k1 k2 k3 k4 k5
    go_wp2
    go_ret
    exact ⟨0, rfl, HB.out, .inl ⟨rfl, Hr.out⟩⟩
  | false =>
    have Hr : Hid (¬ MB g) := fun h => Bool.noConfusion (hr.2 h)
    clear hm hr b2 k0 k1 k2 k3 k4 k5
    go_wp2
    go_ret
    exact ⟨164, rfl, HB.out, .inr ⟨rfl, Hr.out⟩⟩

end Go.Proofs.YtckgcpoheodbcaaDoor

