import Derived.Test.YtkekaifiahjljaaGreatDoorC01
import Derived.Lib.AppendZerosOnto
import Derived.Test.YtkekaifiahjljaaGreatDoorC04
set_option linter.unusedVariables false
set_option maxHeartbeats 8000000
set_option maxRecDepth 20000
namespace Go.Proofs.YtkekaifiahjljaaGreatDoor
open Go.RowKit
theorem zeroCells_one (z : Value) (k : Nat) : Builtin.zeroCells #[z] k = (List.replicate k z).toArray := by
  apply Array.ext'
  apply List.ext_getElem?
  intro i
  by_cases h : i < k
  · simp [Builtin.zeroCells, h, Nat.mod_one]
  · simp [Builtin.zeroCells, h]
theorem run_zeros_own (w : World) (base t tn ty e : Nat) (i : TypeInfo) (z : Value) (bytes : Nat) (kq kn : IntKind) (ht : Tryz.prog.underlying t = some (.slice e)) (htn : Tryz.prog.underlying tn = some (.int kn)) (hi : Tryz.prog.info? e = some i) (hz : i.zero = some z)
    (hsize : i.size = 1) (hby : i.bytes = bytes) (hzs : z.cells = #[z]) (hz1 : z.oneCell' = true)
    (v : Value) (n : Nat) (xs : List Value) (hown : w.ownsRow base e 1 v n xs) (k : Nat) (h0 : 0 < k)
    (h63 : n + k ≤ maxLen) (hbytes : (n + k) * bytes ≤ 140737488355328) (hbase : base ≤ w.heap.size) :
    ∃ v' w', (Builtin.append_ #[t, tn] ty #[v, .int kq k]).run Tryz.prog w = .ok v' w' ∧ w'.ownsRow base e 1 v' (n + k) (xs ++ List.replicate k z) ∧ w.grownBy w' v.ownBlock ∧
      (v'.ownBlock = v.ownBlock ∨ v'.ownBlock = some w.heap.size) := by
  have hsmall : n + k ≤ 9223372036854775807 := by simp only [maxLen] at h63; omega
  have hxl : xs.length = n := by simpa using hown.1
  have hkb : k * bytes ≤ 140737488355328 := Nat.le_trans (Nat.mul_le_mul_right _ (by omega)) hbytes
  have hlen : (xs ++ List.replicate k z).length = (n + k) * 1 := by simp [hxl]
  have grown : ∀ (old : Nat), old < n + k → ∀ (row : Option Nat),
      (w.drew.alloc (.cells (xs.toArray ++ Builtin.zeroCells z.cells k ++ Builtin.zeroCells z.cells (grownCap w (n + k) old e - (n + k))) e)).ownsRow base e 1
        (.slice (some ⟨w.heap.size, 0, none⟩) (n + k) (grownCap w (n + k) old e)) (n + k) (xs ++ List.replicate k z) ∧
      w.grownBy (w.drew.alloc (.cells (xs.toArray ++ Builtin.zeroCells z.cells k ++ Builtin.zeroCells z.cells (grownCap w (n + k) old e - (n + k))) e)) row := by
    intro old ho row
    have hge := grownCap_ge w (n + k) old e
    have hcm : grownCap w (n + k) old e ≤ maxLen := grownCap_le_maxLen w (n + k) old e h63
    refine ⟨⟨hlen, .inr ⟨w.heap.size, _, _, rfl, hbase, heap_alloc_new w.drew _, hge, hcm, ?_, ?_⟩⟩, ⟨rfl, rfl, rfl, by simp, fun k hk _ => Below.heap_alloc w.drew _ k hk⟩⟩
    · rw [hzs]; simp only [Array.size_append, List.size_toArray, size_zeroCells, hxl]
      simp; omega
    · rw [hzs, zeroCells_one, ← hlen]
      simp only [Array.toList_append]
      exact List.take_left
  rcases hown.2 with ⟨rfl, rfl⟩ | ⟨g, cap, cur, rfl, hbg, hg, hnc, hcm, hcs, htake⟩
  · have hx : xs = [] := List.eq_nil_of_length_eq_zero hxl
    subst hx
    have hr := Lib.run_append_nil_zeros (P := Tryz.prog) w t tn ty e i z kq kn ht htn hi hz k h0 (by omega) (by omega) (by rw [hby]; omega)
    have hgr := grown 0 (by omega) (Value.ownBlock (.slice none 0 0))
    simp only [Nat.zero_add, List.nil_append, Array.empty_append] at hgr ⊢
    exact ⟨_, _, hr, hgr.1, hgr.2, Or.inr rfl⟩
  · by_cases hroom : n + k ≤ cap
    · have hfit : n * 1 + (List.replicate k z).length ≤ cur.size := by simp; omega
      have hst := run_storeCells_at Tryz.prog g n e (List.replicate k z) 0 cur w hg (by simp; omega) (by intro u hu; rw [List.eq_of_mem_replicate hu]; exact hz1)
      simp only [Nat.add_zero] at hst
      have hw : IntKind.i64.wrap (k : Int) = k := by rw [IntKind.wrap_i64]; omega
      have h48i : ¬ (281474976710656 < (k : Int) * (i.bytes : Int)) := by
        rw [← Int.natCast_mul, hby]
        omega
      have hneg : ¬ ((k : Int) < 0) := by omega
      have hk : k ≠ 0 := by omega
      have hr : (Builtin.append_ #[t, tn] ty #[.slice (some ⟨g, 0, none⟩) n cap, .int kq k]).run Tryz.prog w =
          .ok (.slice (some ⟨g, 0, none⟩) (n + k) cap) (w.setRow g (cur.toList.take n ++ List.replicate k z ++ cur.toList.drop (n + (List.replicate k z).length)).toArray) := by
        simp [Builtin.append_, run_underlying ht, run_underlying htn, sizeOf, typeInfo, zeroValue, hi, hz, hsize, asInt, asIntOf, hw, hneg, hk, h48i, hroom, hzs, zeroCells_one, Addr.add_lit, hst]
      refine ⟨_, _, hr, ⟨hlen, .inr ⟨g, cap, _, rfl, hbg, setRow_heap w g cur _ e _ hg, hroom, hcm, ?_, ?_⟩⟩, ⟨rfl, rfl, rfl, by simp, fun k _ hk => setRow_other w g k _ (fun e => hk (by simp [Value.ownBlock, e]))⟩, Or.inl rfl⟩
      · simp
        omega
      · rw [← hlen]
        rw [Nat.mul_one] at htake
        simp only [htake]
        exact List.take_left
    · have hold : (Builtin.firstCells i.size n (.slice (some ⟨g, 0, none⟩) n cap)).run Tryz.prog w.drew = .ok xs.toArray w.drew := by
        have holds : ∀ j u, xs[j]? = some u → w.drew.cell? ((⟨g, 0, none⟩ : Addr).add j) = some u := hown.cells (g := g) rfl
        exact run_firstCells_some (P := Tryz.prog) w.drew i.size n ⟨g, 0, none⟩ n cap xs (by rw [hsize]; simpa using hxl) holds
      have hr := Lib.run_append_grow_zeros (P := Tryz.prog) w t tn ty e i z kq kn ht htn hi hz (some ⟨g, 0, none⟩) n cap xs hold k h0 (by omega) (by omega) (by omega) (by rw [hby]; omega) (by rw [hby]; exact growslice_fits (by omega) hbytes)
      have hgr := grown cap (by omega) (Value.ownBlock (.slice (some ⟨g, 0, none⟩) n cap))
      exact ⟨_, _, hr, hgr.1, hgr.2, Or.inr rfl⟩
end Go.Proofs.YtkekaifiahjljaaGreatDoor
namespace Go.Proofs.YtkekaifiahjljaaGreatDoor
open Go.RowKit Go.Shelf
theorem row_cut0 {w : World} {base e n g cap : Nat} {xs : List Value} (h : w.ownsRow base e 1 (.slice (some ⟨g, 0, none⟩) n cap) n xs) : w.ownsRow base e 1 (.slice (some ⟨g, 0, none⟩) 0 cap) 0 [] := by
  rcases h.2 with ⟨h1, h2⟩ | ⟨g', cap', cur, h1, h2, h3, h4, h5, h6, h7⟩
  · cases h1
  · cases h1
    exact ⟨rfl, .inr ⟨g, cap, cur, rfl, h2, h3, Nat.zero_le _, h5, h6, by simp⟩⟩
theorem slGrow_nil (n : Nat) (hn : n ≤ 1000000000000) (w : World) :
    Calls Tryz.prog 160 #[.slice none 0 0, .int .i64 n] w fun e w' => ∃ v, e = .returned v ∧ Below w.heap.size w w' ∧ w'.ownsRow w.heap.size 3 1 v 0 [] := by
  obtain ⟨i0, hi0, hj0, hj1, hj2⟩ := info_parts Kg.Tryz.infoInt
  have hn0 : ¬ (n : Int) < 0 := by omega
  by_cases h0 : 0 < n
  · have h0i : (n : Int) > 0 := by omega
    obtain ⟨v', w', hr, ho, hg, hb⟩ := run_zeros_own w w.heap.size 24 3 24 3 i0 (.int .i64 0) 8 .i64 .i64 Tryz.underlying24 (by kernel_rfl) hi0 hj0 hj1 hj2 rfl rfl (.slice none 0 0) 0 [] (World.ownsRow_nil _ _ _ _) n h0 (by simp only [maxLen]; omega) (by omega) (Nat.le_refl _)
    have HB : Hid (Below w.heap.size w w') := ⟨hg.os, hg.tape, hg.output, hg.size, fun k hk => hg.block k hk (fun e => by cases e)⟩
    rw [Nat.zero_add] at ho
    obtain ⟨gb, cp, rfl⟩ := Kg.ownsRow_some ho h0
    have Ho : Hid (w'.ownsRow w.heap.size 3 1 (.slice (some ⟨gb, 0, none⟩) 0 cp) 0 []) := row_cut0 ho
    clear ho hb hg hi0 hj0 hj1 hj2
    go_enter Tryz.func160, Tryz.ntmps160
    go_wp2_with (at_builtin; refine Lib.wpList_append_run _ rfl _ _ _ _ rfl _ _ rfl rfl _ _ hr ?_)
    clear hr
    go_wp2
    go_ret
    exact ⟨_, rfl, HB.out, Ho.out⟩
  · have h0e : n = 0 := by omega
    subst h0e
    go_enter Tryz.func160, Tryz.ntmps160
    go_wp2
    go_ret
    exact ⟨_, rfl, Below.refl _ _, World.ownsRow_nil _ _ _ _⟩
def flat (fs : List (Value × List Int)) : List Int := (fs.map (·.2)).flatten
theorem flat_snoc {fs : List (Value × List Int)} {k : Nat} {x : Value × List Int} (h : fs[k]? = some x) : flat (fs.take (k + 1)) = flat (fs.take k) ++ x.2 := by
  rw [take_snocL h]
  simp [flat]
theorem flat_len (fs : List (Value × List Int)) : (flat fs).length = fsum (fs.map (·.2)) := by
  simp [flat, fsum, List.length_flatten]
theorem lrd_news {n0 : Nat} {w : World} {a : Option Addr} {cap n : Nat} {xs : List Int} (h : Lrd n0 w (.slice a n cap) .i64 xs) : ∀ (j : Nat) u, (Kg.ints xs)[j]? = some u → ∃ ad, a = some ad ∧ w.cell? (ad.add j) = some u := by
  obtain ⟨a', cap', e, h2, h3⟩ := h
  cases e
  intro j u hj
  simp only [Kg.ints, List.getElem?_map] at hj
  cases hx : xs[j]? with
  | none => rw [hx] at hj; cases hj
  | some z =>
    rw [hx] at hj
    cases hj
    obtain ⟨q, off, rfl, -, h6⟩ := h3 j z hx
    exact ⟨_, rfl, by rw [Addr.add_lit]; exact h6⟩
theorem slConcat_any (n0 : Nat) (v : Value) (fs : List (Value × List Int)) (w : World) (hv : Frd n0 w v fs) (hn : n0 ≤ w.heap.size) (hl : fs.length ≤ 4611686018427387904) (hs : fsum (fs.map (·.2)) ≤ 1000000000000) :
    Calls Tryz.prog 102 #[v] w fun e w' => ∃ v', e = .returned v' ∧ Below w.heap.size w w' ∧ w'.ownsRow w.heap.size 3 1 v' (flat fs).length (Kg.ints (flat fs)) := by
  obtain ⟨i0, hi0, hj0, hj1, hj2⟩ := info_parts Kg.Tryz.infoInt
  have HI : Hid (Tryz.prog.info? 3 = some i0 ∧ i0.zero = some (.int .i64 0) ∧ i0.size = 1 ∧ i0.bytes = 8) := ⟨hi0, hj0, hj1, hj2⟩
  clear hi0 hj0 hj1 hj2
  have Hv : Hid (Frd n0 w v fs) := hv
  obtain ⟨a, cap, rfl, -⟩ := hv
  go_enter Tryz.func102, Tryz.ntmps102
  go_wp2
  go_loopw [3, 11] (fun v3 v11 wr => ∃ k : Nat, k ≤ fs.length ∧ v11 = .int .i64 k ∧ v3 = .int .i64 (fsum ((fs.map (·.2)).take k)) ∧ w = wr) (fun _ v11 _ => fs.length - (intOf v11).toNat)
  case atStart => exact ⟨0, Nat.zero_le _, rfl, rfl, rfl⟩
  case round =>
    obtain ⟨k, hk, rfl, rfl, rfl⟩ := hrel
    by_cases hkl : k < fs.length
    · have hki : (k : Int) < (fs.length : Int) := by omega
      have hz : fs[k]? = some (fs[k]'hkl) := List.getElem?_eq_getElem hkl
      generalize fs[k]'hkl = x at hz
      obtain ⟨a', cap', ea, hob⟩ := Hv.out
      cases ea
      obtain ⟨hp, q, off, rfl, hq, hc⟩ := hob k x hz
      obtain ⟨ap, cp, ep, -⟩ := hp
      rw [ep] at hc
      have e9 : fsum ((fs.map (·.2)).take (k + 1)) = fsum ((fs.map (·.2)).take k) + x.2.length := by
        rw [take_snocL (o := x.2) (by rw [List.getElem?_map, hz]; rfl), fsum_snoc]
      have hle := fsum_take (fs.map (·.2)) (k + 1)
      have hle2 : fsum ((fs.map (·.2)).take k) + x.2.length ≤ 1000000000000 := by omega
      have hwr : wrap64 ((fsum ((fs.map (·.2)).take k) : Int) + (x.2.length : Int)) = (fsum ((fs.map (·.2)).take k) : Int) + (x.2.length : Int) := by unfold wrap64; omega
      have hng : ¬ ((fsum ((fs.map (·.2)).take k) : Int) + (x.2.length : Int) < 0) := by omega
      have He : Hid (fsum ((fs.map (·.2)).take (k + 1)) = fsum ((fs.map (·.2)).take k) + x.2.length) := e9
      clear e9 hle hob hz ep
      go_wp2
      go_roundw
      case rel =>
        exact ⟨k + 1, by omega, by go_num, by rw [He.out, Int.natCast_add], trivial⟩
      case measure => simp [intOf]; omega
    · have hki : ¬ (k : Int) < (fs.length : Int) := by omega
      have e9 : fsum ((fs.map (·.2)).take k) = fsum (fs.map (·.2)) := by rw [List.take_of_length_le (by simp; omega)]
      rw [e9]
      have hgr := slGrow_nil (fsum (fs.map (·.2))) hs w
      go_wp2_with fail
      refine hgr.mono ?_
      rintro e w2 ⟨v2, rfl, b2, o2⟩
      obtain ⟨a2, c2, hv2⟩ := own_slI o2
      subst hv2
      have Hb2 : Hid (Below w.heap.size w w2) := b2
      have Ho2 : Hid (w2.ownsRow w.heap.size 3 1 (.slice a2 0 c2) 0 []) := o2
      clear hgr b2 o2 e9
      go_wp2
      go_loopw [6, 27] (fun v6 v27 wr => ∃ k : Nat, k ≤ fs.length ∧ v27 = .int .i64 k ∧ Hid (wr.ownsRow w.heap.size 3 1 v6 (flat (fs.take k)).length (Kg.ints (flat (fs.take k)))) ∧ Hid (Below w.heap.size w wr)) (fun _ v27 _ => fs.length - (intOf v27).toNat)
      case atStart => exact ⟨0, Nat.zero_le _, rfl, Ho2.out, Hb2⟩
      case round =>
        obtain ⟨k, hk, rfl, Hr, Hb⟩ := hrel
        obtain ⟨a3, c3, hv3⟩ := own_slI Hr.out
        subst hv3
        by_cases hkl : k < fs.length
        · have hki : (k : Int) < (fs.length : Int) := by omega
          have hz : fs[k]? = some (fs[k]'hkl) := List.getElem?_eq_getElem hkl
          generalize fs[k]'hkl = x at hz
          obtain ⟨a', cap', ea, hob⟩ := Hv.out.below (Hb.out.mono hn)
          cases ea
          obtain ⟨hp, q, off, rfl, hq, hc⟩ := hob k x hz
          have Hp : Hid (Lrd n0 wr x.1 .i64 x.2) := hp
          obtain ⟨ap, cp, ep, -⟩ := hp
          rw [ep] at hc Hp
          have Hnews := lrd_news Hp.out
          have He : Hid (flat (fs.take (k + 1)) = flat (fs.take k) ++ x.2) := flat_snoc hz
          have Hle : Hid ((flat (fs.take k)).length + x.2.length ≤ 1000000000000) := by
            have h1 := fsum_take (fs.map (·.2)) (k + 1)
            rw [← List.map_take, ← flat_len, He.out, List.length_append] at h1
            show _ ≤ _
            omega
          have HN : Hid (∀ (j : Nat) u, (Kg.ints x.2)[j]? = some u → ∃ ad, ap = some ad ∧ wr.cell? (ad.add j) = some u) := Hnews
          clear Hnews hob hz ep
          go_wp2_with (at_builtin; refine Kg.wpList_append_row rfl _ _ 24 rfl w.heap.size 3 i0 (.int .i64 0) 8 Tryz.underlying24 HI.out.1 HI.out.2.1 HI.out.2.2.1 HI.out.2.2.2 rfl _ _ _ rfl Hr.out ap x.2.length cp (Kg.ints x.2) (by simp [Kg.ints]) rfl HN.out (by simp [Kg.ints, Value.oneCell']) (by have := Hle.out; simp only [maxLen]; omega) (by have := Hle.out; omega) Hb.out.size ?_; intro v' w8 hown' hgrow _ hat _)
          go_roundw
          case rel =>
            refine ⟨k + 1, by omega, by go_num, ?_, ?_⟩
            · show w8.ownsRow _ _ _ _ _ _
              rw [He.out]
              simpa [Kg.ints] using hown'
            · have t8 : Kg.Touch (Value.slice a3 (flat (fs.take k)).length c3).ownBlock.toList wr w8 := Kg.Touch.grown hgrow (fun y hy => by rw [Option.mem_toList]; exact hy)
              exact Hb.out.trans (t8.below Hb.out.size (fun y hy => by rw [Option.mem_toList] at hy; exact (Hr.out.lt y hy).1))
          case measure => simp [intOf]; omega
        · have hki : ¬ (k : Int) < (fs.length : Int) := by omega
          have e9 : fs.take k = fs := List.take_of_length_le (by omega)
          rw [e9] at Hr
          go_wp2
          go_ret
          exact ⟨_, rfl, Hb.out, Hr.out⟩
def slotsF (l : List (List (List Int))) : List Int := (l.map List.flatten).flatten
def ents (g : Im.Gr) : List Int := (g.hs ++ (g.rg ++ g.qu)) ++ slotsF g.slots
theorem mem_slotsF (l : List (List (List Int))) (z : Int) : z ∈ slotsF l ↔ ∃ t, t ∈ l ∧ ∃ f, f ∈ t ∧ z ∈ f := by
  simp only [slotsF, List.mem_flatten, List.mem_map]
  constructor
  · rintro ⟨m, ⟨t, ht, rfl⟩, hz⟩
    obtain ⟨f, hf, hz⟩ := List.mem_flatten.1 hz
    exact ⟨t, ht, f, hf, hz⟩
  · rintro ⟨t, ht, f, hf, hz⟩
    exact ⟨t.flatten, ⟨t, ht, rfl⟩, List.mem_flatten.2 ⟨f, hf, hz⟩⟩
theorem mem_ents (g : Im.Gr) (z : Int) : z ∈ ents g ↔ Im.Root g z := by
  simp only [ents, List.mem_append, mem_slotsF, Im.Root]
  constructor
  · rintro ((h | h | h) | h)
    · exact .inr (.inl h)
    · exact .inr (.inr (.inl h))
    · exact .inr (.inr (.inr h))
    · exact .inl h
  · rintro (h | h | h | h)
    · exact .inr h
    · exact .inl (.inl h)
    · exact .inl (.inr (.inl h))
    · exact .inl (.inr (.inr h))
theorem slotsF_snoc {l : List (List (List Int))} {k : Nat} {t : List (List Int)} (h : l[k]? = some t) : slotsF (l.take (k + 1)) = slotsF (l.take k) ++ t.flatten := by
  rw [take_snocL h]
  simp [slotsF]
theorem slotsF_take (l : List (List (List Int))) (k : Nat) : (slotsF (l.take k)).length ≤ (slotsF l).length := by
  have h : slotsF l = slotsF (l.take k) ++ slotsF (l.drop k) := by
    have h9 : slotsF (l.take k ++ l.drop k) = slotsF (l.take k) ++ slotsF (l.drop k) := by
      unfold slotsF
      rw [List.map_append, List.flatten_append]
    rw [List.take_append_drop] at h9
    exact h9
  rw [h, List.length_append]
  omega
def en (E0 : List Int) (l : List (List (List Int))) : List Int := E0 ++ slotsF l
theorem frd_three {n0 : Nat} {w : World} {v1 v2 v3 : Value} {l1 l2 l3 : List Int} (h1 : Lrd n0 w v1 .i64 l1) (h2 : Lrd n0 w v2 .i64 l2) (h3 : Lrd n0 w v3 .i64 l3) (hn : n0 ≤ w.heap.size) :
    Frd (w.heap.size + 1) (w.alloc (.cells #[v1, v2, v3] 24)) (.slice (some ⟨w.heap.size, 0, none⟩) 3 3) [(v1, l1), (v2, l2), (v3, l3)] := by
  have hb : Below n0 w (w.alloc (.cells #[v1, v2, v3] 24)) := Below.alloc (Below.refl _ _) hn _
  have hy := fun j => cell_of_row _ _ j _ _ _ (heap_alloc_new w (.cells #[v1, v2, v3] 24 (0, 0)))
  refine ⟨_, _, rfl, fun i x hx => ?_⟩
  match i, hx with
  | 0, hx => cases hx; exact ⟨(h1.below hb).mono (by omega), _, _, rfl, Nat.lt_succ_self _, hy 0⟩
  | 1, hx => cases hx; exact ⟨(h2.below hb).mono (by omega), _, _, rfl, Nat.lt_succ_self _, hy 1⟩
  | 2, hx => cases hx; exact ⟨(h3.below hb).mono (by omega), _, _, rfl, Nat.lt_succ_self _, hy 2⟩
  | i + 3, hx => cases hx
theorem gEntries_any (n0 : Nat) (w : World) (vo vs vh vr vq : Value) (os : List OL) (ts : List (Value × List (Value × List Int))) (g : Im.Gr) (hg : Grd n0 w vo vs vh vr vq os ts g) (hn : n0 ≤ w.heap.size) (hs : Sln ts) (hlen : (ents g).length ≤ 1000000000000) :
    Calls Tryz.prog 185 #[.agg (gcs vo vs vh vr vq g.next)] w fun e w' => ∃ v, e = .returned v ∧ Below w.heap.size w w' ∧ w'.ownsRow w.heap.size 3 1 v (ents g).length (Kg.ints (ents g)) := by
  obtain ⟨i0, hi0, hj0, hj1, hj2⟩ := info_parts Kg.Tryz.infoInt
  have HI : Hid (Tryz.prog.info? 3 = some i0 ∧ i0.zero = some (.int .i64 0) ∧ i0.size = 1 ∧ i0.bytes = 8) := ⟨hi0, hj0, hj1, hj2⟩
  clear hi0 hj0 hj1 hj2
  have l1 : Below w.heap.size w (w.alloc (.cells (gcs vo vs vh vr vq g.next) 27)) := Below.alloc (Below.refl _ _) (Nat.le_refl _) _
  have hy := fun j => cell_of_row _ _ j _ _ _ (heap_alloc_new w (.cells (gcs vo vs vh vr vq g.next) 27 (0, 0)))
  have y1 : (w.alloc (.cells (gcs vo vs vh vr vq g.next) 27)).cell? ⟨w.heap.size, 1, none⟩ = some vs := hy 1
  have y2 : (w.alloc (.cells (gcs vo vs vh vr vq g.next) 27)).cell? ⟨w.heap.size, 2, none⟩ = some vh := hy 2
  have y3 : (w.alloc (.cells (gcs vo vs vh vr vq g.next) 27)).cell? ⟨w.heap.size, 3, none⟩ = some vr := hy 3
  have y4 : (w.alloc (.cells (gcs vo vs vh vr vq g.next) 27)).cell? ⟨w.heap.size, 4, none⟩ = some vq := hy 4
  have hg1 := hg.below (l1.mono hn)
  have h3 := frd_three hg1.hs hg1.rg hg1.qu (Nat.le_trans hn l1.size)
  have Hg : Hid (Grd n0 w vo vs vh vr vq os ts g) := hg
  have Hs : Hid (Sln ts) := hs
  have hx := hg.sl
  obtain ⟨b, bcap, rfl, -⟩ := hx
  have hx := hg.hs
  obtain ⟨ah, hcap, rfl, -⟩ := hx
  have hx := hg.rg
  obtain ⟨ar, rcap, rfl, -⟩ := hx
  have hx := hg.qu
  obtain ⟨aq, qcap, rfl, -⟩ := hx
  have htl := hs.t
  have Hes : Hid (g.slots = ts.map (fun t => t.2.map (·.2))) := hg.es
  have Hel : Hid ((g.hs ++ (g.rg ++ g.qu)).length + (slotsF g.slots).length ≤ 1000000000000) := by rw [ents, List.length_append] at hlen; exact hlen
  clear hg hy hs hg1 hlen
  generalize hw1 : w.alloc (.cells (gcs vo (.slice b ts.length bcap) (.slice ah g.hs.length hcap) (.slice ar g.rg.length rcap) (.slice aq g.qu.length qcap) g.next) 27) = w1 at *
  have e1 : w1.heap.size = w.heap.size + 1 := by rw [← hw1]; simp
  have Ht : Hid (fsum ([(Value.slice ah g.hs.length hcap, g.hs), (Value.slice ar g.rg.length rcap, g.rg), (Value.slice aq g.qu.length qcap, g.qu)].map (·.2)) ≤ 1000000000000) := by
    have := Hel.out
    simp only [List.length_append] at this
    simp [fsum]
    show _ ≤ _
    omega
  have hcc := slConcat_any (w1.heap.size + 1) _ _ _ h3 (by simp) (by simp) Ht.out
  have l2 : Below w1.heap.size w1 (w1.alloc (.cells #[.slice ah g.hs.length hcap, .slice ar g.rg.length rcap, .slice aq g.qu.length qcap] 24)) := Below.alloc (Below.refl _ _) (Nat.le_refl _) _
  clear h3 Ht
  go_enter Tryz.func185, Tryz.ntmps185
  rw [e1] at hcc
  go_wp2_with fail
  refine hcc.mono ?_
  rintro e w2 ⟨v2, rfl, b2, o2⟩
  obtain ⟨a2, c2, hv2⟩ := own_slI o2
  subst hv2
  have B2 : Below w1.heap.size w1 w2 := l2.trans (b2.mono l2.size)
  have Hb2 : Hid (Below w1.heap.size w1 w2) := B2
  have ef : flat [(Value.slice ah g.hs.length hcap, g.hs), (Value.slice ar g.rg.length rcap, g.rg), (Value.slice aq g.qu.length qcap, g.qu)] = g.hs ++ (g.rg ++ g.qu) := by simp [flat]
  rw [ef] at o2
  rw [ef]
  have Ho2 : Hid (w2.ownsRow w1.heap.size 3 1 (.slice a2 (g.hs ++ (g.rg ++ g.qu)).length c2) (g.hs ++ (g.rg ++ g.qu)).length (Kg.ints (g.hs ++ (g.rg ++ g.qu)))) := Kg.row_base o2 (by simp)
  have z1 : w2.cell? ⟨w.heap.size, 1, none⟩ = some (.slice b ts.length bcap) := (B2.cell (p := ⟨w.heap.size, 1, none⟩) (by rw [e1]; exact Nat.lt_succ_self _)).trans y1
  clear hcc b2 o2 y1 y2 y3 y4 ef B2
  generalize hE0 : g.hs ++ (g.rg ++ g.qu) = E0 at *
  have HE0 : Hid (g.hs ++ (g.rg ++ g.qu) = E0) := hE0
  clear hE0
  go_wp2
  go_loopw [3, 17] (fun v3 v17 wr => ∃ k : Nat, k ≤ ts.length ∧ v17 = .int .i64 k ∧ Hid (wr.ownsRow w1.heap.size 3 1 v3 (en E0 (g.slots.take k)).length (Kg.ints (en E0 (g.slots.take k)))) ∧ Hid (Below w1.heap.size w1 wr)) (fun _ v17 _ => ts.length - (intOf v17).toNat)
  case atStart => exact ⟨0, Nat.zero_le _, rfl, by have h9 : en E0 (g.slots.take 0) = E0 := (by simp [en, slotsF]); show w2.ownsRow _ _ _ _ _ _; rw [h9]; exact Ho2.out, Hb2⟩
  case round =>
    obtain ⟨k, hk, rfl, Hr, Hb⟩ := hrel
    obtain ⟨a3, c3, hv3⟩ := own_slI Hr.out
    subst hv3
    have BW : Hid (Below w.heap.size w wr) := l1.trans (Hb.out.mono l1.size)
    by_cases hkl : k < ts.length
    · have hki : (k : Int) < (ts.length : Int) := by omega
      have hz : ts[k]? = some (ts[k]'hkl) := List.getElem?_eq_getElem hkl
      generalize ts[k]'hkl = x at hz
      obtain ⟨a', cap', ea, hob⟩ := (Hg.out.below (BW.out.mono hn)).sl
      cases ea
      obtain ⟨hp, q, off, rfl, hq, hc⟩ := hob k x hz
      have Hz : Hid (g.slots[k]? = some (x.2.map (·.2))) := by show _ = _; rw [Hes.out, List.getElem?_map, hz]; rfl
      have He : Hid (en E0 (g.slots.take (k + 1)) = (en E0 (g.slots.take k)) ++ flat x.2) := by show _ = _; rw [en, slotsF_snoc Hz.out, en, List.append_assoc]; rfl
      have Hle : Hid ((en E0 (g.slots.take k)).length + (flat x.2).length ≤ 1000000000000) := by
        have h1 := slotsF_take g.slots (k + 1)
        have h2 := congrArg List.length He.out
        have h4 := Hel.out
        simp only [en, List.length_append] at h2 h4 ⊢
        show _ ≤ _
        omega
      have hxs := Hs.out.f x (List.mem_of_getElem? hz)
      have hcc := slConcat_any n0 x.1 x.2 wr hp (Nat.le_trans hn BW.out.size) hxs.1 (by rw [← flat_len]; have := Hle.out; omega)
      obtain ⟨ap, cp, ep, -⟩ := hp
      rw [ep] at hc hcc
      clear hob hz ep hxs
      go_wp2_with fail
      refine hcc.mono ?_
      rintro e w5 ⟨v5, rfl, b5, o5⟩
      clear hcc
      obtain ⟨a5, c5, hv5⟩ := own_slI o5
      subst hv5
      have HN : Hid (∀ (j : Nat) u, (Kg.ints (flat x.2))[j]? = some u → ∃ ad, a5 = some ad ∧ w5.cell? (ad.add j) = some u) := lrd_news (Lrd.of_row (Kg.row_base o5 (Nat.zero_le _)))
      have Hr5 : Hid (w5.ownsRow w1.heap.size 3 1 (.slice a3 (en E0 (g.slots.take k)).length c3) (en E0 (g.slots.take k)).length (Kg.ints (en E0 (g.slots.take k)))) := Kg.row_keep2 Hr.out (Kg.Touch.of_below b5 []) (fun _ _ => by simp)
      have Hb5 : Hid (Below w1.heap.size w1 w5) := Hb.out.trans (b5.mono Hb.out.size)
      clear b5 o5 Hr
      go_wp2_with (at_builtin; refine Kg.wpList_append_row rfl _ _ 24 rfl w1.heap.size 3 i0 (.int .i64 0) 8 Tryz.underlying24 HI.out.1 HI.out.2.1 HI.out.2.2.1 HI.out.2.2.2 rfl _ _ _ rfl Hr5.out a5 (flat x.2).length c5 (Kg.ints (flat x.2)) (by simp [Kg.ints]) rfl HN.out (by simp [Kg.ints, Value.oneCell']) (by have := Hle.out; simp only [maxLen]; omega) (by have := Hle.out; omega) Hb5.out.size ?_; intro v' w8 hown' hgrow _ hat _)
      go_roundw
      case rel =>
        refine ⟨k + 1, by omega, by go_num, ?_, ?_⟩
        · show w8.ownsRow _ _ _ _ _ _
          rw [He.out]
          simp only [Kg.ints, List.map_append, List.length_append] at hown' ⊢
          exact hown'
        · have t8 : Kg.Touch (Value.slice a3 (en E0 (g.slots.take k)).length c3).ownBlock.toList w5 w8 := Kg.Touch.grown hgrow (fun y hy => by rw [Option.mem_toList]; exact hy)
          exact Hb5.out.trans (t8.below Hb5.out.size (fun y hy => by rw [Option.mem_toList] at hy; exact (Hr5.out.lt y hy).1))
      case measure => simp [intOf]; omega
    · have hki : ¬ (k : Int) < (ts.length : Int) := by omega
      have e9 : g.slots.take k = g.slots := List.take_of_length_le (by rw [Hes.out, List.length_map]; omega)
      rw [e9] at Hr
      have Hr9 : Hid (wr.ownsRow w1.heap.size 3 1 (.slice a3 (ents g).length c3) (ents g).length (Kg.ints (ents g))) := by
        have h9 : ents g = en E0 g.slots := by rw [ents, HE0.out, en]
        show wr.ownsRow _ _ _ _ _ _
        rw [h9]
        exact Hr.out
      have h10 : (en E0 g.slots).length = (ents g).length := by rw [ents, HE0.out, en]
      rw [e9, h10]
      clear Hr h10
      go_wp2
      go_ret
      exact ⟨_, rfl, BW.out, Kg.row_base Hr9.out l1.size⟩
end Go.Proofs.YtkekaifiahjljaaGreatDoor
