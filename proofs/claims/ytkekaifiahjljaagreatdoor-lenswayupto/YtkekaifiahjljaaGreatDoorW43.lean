import Derived.Test.YtkekaifiahjljaaGreatDoorW42
import Derived.Test.YtkekaifiahjljaaGreatDoorW28
import Derived.Test.YtkekaifiahjljaaGreatDoorW17
import Derived.Test.YtkekaifiahjljaaGreatDoorW11
import Derived.Test.YtkekaifiahjljaaGreatDoorW15
set_option linter.unusedVariables false
set_option maxHeartbeats 8000000
set_option maxRecDepth 20000
namespace Go.Proofs.YtkekaifiahjljaaGreatDoor
open Go.RowKit Go.Shelf Go.Proofs.YtkekaifiahjljaaGreatDoor.Lt Go.Proofs.YtkekaifiahjljaaGreatDoor.Lp
variable {g : Im.Gr} {t : Nat} {l : List Nat}
theorem way_nz (h : Gd (wy17 g) t 0 l) {i y : Nat} (hi : l[i]? = some y) : y ≠ 0 := by
  cases i with
  | zero => exact wy_nz g _ _ (gd_first h hi)
  | succ i =>
    have h1 := (List.getElem?_eq_some_iff.1 hi).1
    have h2 : l[i]? = some (l[i]'(by omega)) := List.getElem?_eq_getElem (by omega)
    exact wy_nz g _ _ (gd_next h i _ y h2 hi)
theorem way_rv (h : Gd (wy17 g) t 0 l) {i y : Nat} (hi : l[i]? = some y) : Rv (wy17 g) 0 y := by
  refine gd_rv h (d := 0) (fun y hy => ?_) i y hi
  obtain ⟨j, hj⟩ := List.getElem?_of_mem hy
  exact way_nz h hj
theorem way_take (h : Gd (wy17 g) t 0 l) {i y : Nat} (hi : l[i]? = some y) : ¬ (y : Int) ∈ (l.map Int.ofNat).take i := by
  intro hm
  obtain ⟨j, hj⟩ := List.getElem?_of_mem hm
  have hji : j < i := by
    have := (List.getElem?_eq_some_iff.1 hj).1
    rw [List.length_take] at this
    omega
  rw [List.getElem?_take, if_pos hji, List.getElem?_map] at hj
  cases hz : l[j]? with
  | none => rw [hz] at hj; cases hj
  | some z =>
    rw [hz] at hj
    simp only [Option.map_some, Option.some.injEq] at hj
    have e : z = y := Int.ofNat.inj hj
    rw [e] at hz
    have := gd_inj h hz hi
    omega
theorem way_root (h : Gd (wy17 g) t 0 l) {i y : Nat} (hi : l[i]? = some y) : (y : Int) ∈ slotsF g.slots ++ (g.hs ++ g.qu) ↔ i = 0 := by
  rw [← gd_root h hi, wy_rt]
  exact ⟨fun h1 => ⟨h1, way_nz h hi⟩, fun h1 => h1.1⟩
theorem way_held (h : Gd (wy17 g) t 0 l) {i k y z : Nat} {o : Im.Ob} (hi : l[i]? = some (y + 1)) (hk : l[k]? = some z) (hik : i < k) (ho : g.obs[y]? = some o) : (z : Int) ∈ stg o ↔ k = i + 1 := by
  rw [← gd_held h hi hk hik, wy_stg ho]
theorem way_end (h : Gd (wy17 g) t 0 l) (hl : l ≠ []) : Rv (wy17 g) 0 t := way_rv h (gd_last h hl)
theorem way_up (h : Gd (wy17 g) t 0 l) (hl : l ≠ []) {M b : Nat} {ps : List Nat} (hc : Cn (wy17 g) M t b ps) (hb : b ≠ 0) : (b : Int) ∈ l.map Int.ofNat := by
  have key : b ∈ l := by
    rcases (hc.at_.resolve_left hb).2 with h1 | h1
    · rw [← h1]; exact List.mem_of_getElem? (gd_last h hl)
    · exact gd_ov h hl h1
  exact List.mem_map.2 ⟨b, key, rfl⟩
theorem dmb_rv {W : Nat → List Nat} {a x : Nat} (h : Dmb W a x) (hx : Rv W 0 x) : Rv W 0 a := by
  rcases h with h | h
  · rw [← h]; exact hx
  · exact h.2.2.2.2.1
end Go.Proofs.YtkekaifiahjljaaGreatDoor
namespace Go.Proofs.YtkekaifiahjljaaGreatDoor
open Go.RowKit Go.Shelf Go.Proofs.YtkekaifiahjljaaGreatDoor.Lt
theorem strong17_any (n0 : Nat) (w : World) (hn0 : n0 ≤ w.heap.size) (x : OL) (hl : Lrd n0 w x.vp .i64 x.o.ps) (hlen : x.o.ps.length ≤ 1000000000) :
    Calls Tryz.prog 13 #[.agg x.cells] w fun e w' => ∃ v, e = .returned v ∧ Il w' w.heap.size v (stg x.o) ∧ Below w.heap.size w w' := by
  obtain ⟨pa, pc, ep, -, hp⟩ := hl
  have HP : Hid (∀ (f : Nat) z, x.o.ps[f]? = some z → ∃ q off, pa = some ⟨q, off, none⟩ ∧ q < n0 ∧ w.cell? ⟨q, off + f, none⟩ = some (.int .i64 z)) := hp
  have h1 := heap_alloc_new w (.cells (ocs x.o.ser x.o.kind x.o.site (.slice pa x.o.ps.length pc) x.vr) 39 (0, 0))
  have b1 : Below w.heap.size w (w.alloc (.cells (ocs x.o.ser x.o.kind x.o.site (.slice pa x.o.ps.length pc) x.vr) 39)) := Below.alloc (Below.refl _ _) (Nat.le_refl _) _
  obtain ⟨W, hW⟩ : ∃ W, W = w.alloc (.cells (ocs x.o.ser x.o.kind x.o.site (.slice pa x.o.ps.length pc) x.vr) 39) := ⟨_, rfl⟩
  have HX : Hid (∀ w', Below W.heap.size W w' → w'.cell? ⟨w.heap.size, 1, none⟩ = some (.int .i64 x.o.kind) ∧ w'.cell? ⟨w.heap.size, 3, none⟩ = some (.slice pa x.o.ps.length pc) ∧ Below w.heap.size w w') := fun w' b' => by
    rw [hW] at b'
    have h9 := (b'.block _ (Kg.heap_lt h1)).trans h1
    exact ⟨Kg.heap_cell h9 1, Kg.heap_cell h9 3, b1.trans (b'.mono b1.size)⟩
  have HS : Hid (W.heap.size = w.heap.size + 1) := by show _ = _; rw [hW]; simp
  show Calls Tryz.prog 13 #[.agg (ocs x.o.ser x.o.kind x.o.site x.vp x.vr)] w _
  rw [ep]
  clear h1 b1 hp
  obtain ⟨f, hf⟩ : ∃ f, f = fst17 x.o.kind := ⟨_, rfl⟩
  have HF : Hid (f = fst17 x.o.kind) := hf
  have hf2 : f ≤ 2 := by rw [hf]; exact fst17_le _
  clear hf
  obtain ⟨g0, hg0⟩ : ∃ g0 : Int, g0 = if x.o.kind = 2 then 1 else 0 := ⟨_, rfl⟩
  have HG0 : Hid (g0 = if x.o.kind = 2 then 1 else 0) := hg0
  clear hg0
  obtain ⟨k1, k3, -⟩ := HX.out W (Below.refl _ _)
  go_enter Tryz.func13, Tryz.ntmps13
  go_upto_if 8 with fail
  rw [← hW]
  clear hW
  go_cut [3] from 9 to 11 (fun v wq => v = .int .i64 g0 ∧ W = wq)
  case first =>
    by_cases e1 : x.o.kind = 2
    · have e1' : (x.o.kind == 2) = true := by simpa using e1
      have E1 : Hid (x.o.kind = 2) := e1
      clear e1
      go_wp2
      go_meet
      exact ⟨by rw [HG0.out, if_pos E1.out], rfl⟩
    · have e1' : (x.o.kind == 2) = false := by simpa using e1
      have E1 : Hid (¬ x.o.kind = 2) := e1
      clear e1
      go_wp2
      go_meet
      exact ⟨by rw [HG0.out, if_neg E1.out], rfl⟩
  case rest =>
  obtain ⟨rfl, rfl⟩ := hcut
  apply_assumption
  go_upto_if 11 with fail
  go_cut [3] from 12 to 12 (fun v wq => v = .int .i64 (f : Nat) ∧ W = wq)
  case first =>
    by_cases e2 : x.o.kind = 3
    · have e2' : (x.o.kind == 3) = true := by simpa using e2
      have E2 : Hid (x.o.kind = 3) := e2
      clear e2
      go_wp2
      go_meet
      exact ⟨by rw [HF.out, E2.out]; rfl, rfl⟩
    · have e2' : (x.o.kind == 3) = false := by simpa using e2
      have E2 : Hid (¬ x.o.kind = 3) := e2
      clear e2
      go_wp2
      go_meet
      refine ⟨?_, rfl⟩
      rw [HF.out, HG0.out]
      unfold fst17
      by_cases e1 : x.o.kind = 2
      · rw [if_pos e1, if_pos e1]; rfl
      · rw [if_neg e1, if_neg e1, if_neg E2.out]; rfl
  case rest =>
  obtain ⟨rfl, rfl⟩ := hcut
  apply_assumption
  obtain ⟨i0, hi0, hj0, hj1, hj2⟩ := info_p17 infoI17
  have HI : Hid (Tryz.prog.info? 3 = some i0 ∧ i0.zero = some (.int .i64 0) ∧ i0.size = 1 ∧ i0.bytes = 8) := ⟨hi0, hj0, hj1, hj2⟩
  clear hi0 hj0 hj1 hj2
  go_wp2
  go_loopw [4, 5] (fun v i wr => ∃ k : Nat, f ≤ k ∧ k ≤ x.o.ps.length + 2 ∧ i = .int .i64 k ∧ Il wr (w.heap.size + 1) v (stt x.o.ps f k) ∧ Below W.heap.size W wr) (fun _ i _ => x.o.ps.length + 2 - (intOf i).toNat)
  case atStart => exact ⟨f, Nat.le_refl _, by omega, rfl, by rw [stt_none]; exact World.ownsRow_nil _ _ _ _, Below.refl _ _⟩
  case round =>
    obtain ⟨k, hfk, hk, rfl, r1, r2⟩ := hrel
    have Hr1 : Hid (Il wr (w.heap.size + 1) u4 (stt x.o.ps f k)) := r1
    have Hr2 : Hid (Below W.heap.size W wr) := r2
    clear r1 r2 k1 k3
    obtain ⟨-, k3, b3⟩ := HX.out wr Hr2.out
    have Hb3 : Hid (Below w.heap.size w wr) := b3
    clear b3
    by_cases hlt : k < x.o.ps.length
    · obtain ⟨z, hz⟩ : ∃ z, x.o.ps[k]? = some z := ⟨_, List.getElem?_eq_getElem hlt⟩
      obtain ⟨q, off, rfl, hq, hc⟩ := HP.out k z hz
      have ck : wr.cell? ⟨q, off + k, none⟩ = some (.int .i64 z) := (Hb3.out.cell (p := ⟨q, off + k, none⟩) (Nat.lt_of_lt_of_le hq hn0)).trans hc
      have hkI : (k : Int) < (x.o.ps.length : Int) := by omega
      have HN : Hid (stt x.o.ps f (k + 1) = stt x.o.ps f k ++ (if 0 < z then [z] else [])) := stt_step hz hfk
      have hln := stt_len x.o.ps f k
      clear hz hc hq
      by_cases hp : 0 < z
      · rw [if_pos hp] at HN
        have hp' : decide (0 < z) = true := decide_eq_true hp
        obtain ⟨a7, c7, rfl⟩ := own_sl17 Hr1.out
        have HSz : Hid (w.heap.size + 1 ≤ wr.heap.size) := by show _ ≤ _; rw [← HS.out]; exact Hr2.out.size
        have HRow : Hid ((wr.alloc (.cells #[.int .i64 z] 3)).ownsRow (w.heap.size + 1) 3 1 (.slice a7 (stt x.o.ps f k).length c7) (stt x.o.ps f k).length (Kg.ints (stt x.o.ps f k))) := Il.below Hr1.out (Below.alloc (Below.refl _ _) (Nat.le_refl _) _)
        go_wp2_with (at_builtin; refine wpList_append_own_at _ rfl _ _ 24 rfl (w.heap.size + 1) 3 i0 (.int .i64 0) 1 8 Tryz.underlying24 HI.out.1 HI.out.2.1 HI.out.2.2.1 HI.out.2.2.2 rfl (by decide) _ _ _ rfl HRow.out ⟨wr.heap.size, 0, none⟩ 1 1 [.int .i64 z] rfl rfl (cell_one17 _ _ _) (by simp [Value.oneCell']) (by simp only [maxLen]; omega) (by omega) (by have := HSz.out; simp; omega) ?_; intro v8 w8 h8 g8 _ _)
        go_roundw
        case rel =>
          obtain ⟨y1, y2, y3⟩ := Il.snoc Hr1.out h8 g8 HSz.out
          exact ⟨k + 1, by omega, by omega, by go_num, by rw [HN.out]; exact y1, Hr2.out.trans (by rw [HS.out]; exact y3)⟩
        case measure => simp [intOf]; omega
      · rw [if_neg hp, List.append_nil] at HN
        have hp' : decide (0 < z) = false := decide_eq_false hp
        go_wp2
        go_roundw
        case rel => exact ⟨k + 1, by omega, by omega, by go_num, by rw [HN.out]; exact Hr1.out, Hr2.out⟩
        case measure => simp [intOf]; omega
    · have hkI : ¬ (k : Int) < (x.o.ps.length : Int) := by omega
      have HE : Hid (stt x.o.ps f k = stg x.o) := by
        show _ = _
        rw [stt_end x.o.ps f k (by omega), HF.out]
        rfl
      rw [HE.out] at Hr1
      go_wp2
      go_ret
      exact ⟨_, rfl, Kg.row_base Hr1.out (by omega), Hb3.out⟩
end Go.Proofs.YtkekaifiahjljaaGreatDoor
namespace Go.Proofs.YtkekaifiahjljaaGreatDoor
open Go.RowKit Go.Shelf
theorem holders17_any (n0 : Nat) (w : World) (vo vs vh vr vq : Value) (os : List OL) (ts : List (Value × List (Value × List Int))) (g : Im.Gr) (hg : Grd n0 w vo vs vh vr vq os ts g) (hn : n0 ≤ w.heap.size) (hs : Sln ts)
    (hel : (slotsF g.slots).length + g.hs.length + g.qu.length + g.rg.length ≤ 1000000000) :
    Calls Tryz.prog 11 #[.agg (gcs vo vs vh vr vq g.next)] w fun e w' => ∃ v, e = .returned v ∧ Il w' w.heap.size v (slotsF g.slots ++ (g.hs ++ g.qu)) ∧ Below w.heap.size w w' := by
  obtain ⟨i0, hi0, hj0, hj1, hj2⟩ := info_p17 infoI17
  have HI : Hid (Tryz.prog.info? 3 = some i0 ∧ i0.zero = some (.int .i64 0) ∧ i0.size = 1 ∧ i0.bytes = 8) := ⟨hi0, hj0, hj1, hj2⟩
  clear hi0 hj0 hj1 hj2
  have l1 : Below w.heap.size w (w.alloc (.cells (gcs vo vs vh vr vq g.next) 27)) := Below.alloc (Below.refl _ _) (Nat.le_refl _) _
  have hy := fun j => cell_of_row _ _ j _ _ _ (heap_alloc_new w (.cells (gcs vo vs vh vr vq g.next) 27 (0, 0)))
  have y0 : (w.alloc (.cells (gcs vo vs vh vr vq g.next) 27)).cell? ⟨w.heap.size, 0, none⟩ = some vo := hy 0
  have y1 : (w.alloc (.cells (gcs vo vs vh vr vq g.next) 27)).cell? ⟨w.heap.size, 1, none⟩ = some vs := hy 1
  have y2 : (w.alloc (.cells (gcs vo vs vh vr vq g.next) 27)).cell? ⟨w.heap.size, 2, none⟩ = some vh := hy 2
  have y3 : (w.alloc (.cells (gcs vo vs vh vr vq g.next) 27)).cell? ⟨w.heap.size, 3, none⟩ = some vr := hy 3
  have y4 : (w.alloc (.cells (gcs vo vs vh vr vq g.next) 27)).cell? ⟨w.heap.size, 4, none⟩ = some vq := hy 4
  have Hg : Hid (Grd n0 w vo vs vh vr vq os ts g) := hg
  have Hs : Hid (Sln ts) := hs
  have htl := hs.t
  have hx := hg.ob
  obtain ⟨a, cap, rfl, -⟩ := hx
  have hx := hg.sl
  obtain ⟨b, bcap, rfl, -⟩ := hx
  have hx := hg.hs
  obtain ⟨ah, hcap, rfl, -⟩ := hx
  have hx := hg.rg
  obtain ⟨ar, rcap, rfl, -⟩ := hx
  have hx := hg.qu
  obtain ⟨aq, qcap, rfl, -⟩ := hx
  have Heo : Hid (g.obs = os.map (·.o)) := hg.eo
  have Heol : Hid (g.obs.length = os.length) := by show _ = _; rw [hg.eo, List.length_map]
  have Hes : Hid (g.slots = ts.map (fun t => t.2.map (·.2))) := hg.es
  have Hel : Hid ((slotsF g.slots).length + g.hs.length + g.qu.length + g.rg.length ≤ 1000000000000) := by show _ ≤ _; omega
  have HelB : Hid ((slotsF g.slots).length + g.hs.length + g.qu.length ≤ 1000000000) := by show _ ≤ _; omega
  clear hg hy hs hel
  generalize hw1 : w.alloc (.cells (gcs (.slice a os.length cap) (.slice b ts.length bcap) (.slice ah g.hs.length hcap) (.slice ar g.rg.length rcap) (.slice aq g.qu.length qcap) g.next) 27) = w1 at *
  have e1 : w1.heap.size = w.heap.size + 1 := by rw [← hw1]; simp
  have HK : Hid (∀ w', Below w1.heap.size w1 w' → w'.cell? ⟨w.heap.size, 0, none⟩ = some (.slice a os.length cap) ∧ w'.cell? ⟨w.heap.size, 1, none⟩ = some (.slice b ts.length bcap) ∧ w'.cell? ⟨w.heap.size, 2, none⟩ = some (.slice ah g.hs.length hcap) ∧ w'.cell? ⟨w.heap.size, 3, none⟩ = some (.slice ar g.rg.length rcap) ∧ w'.cell? ⟨w.heap.size, 4, none⟩ = some (.slice aq g.qu.length qcap)) := fun w' b' => by
    have hlt : w.heap.size < w1.heap.size := by omega
    exact ⟨(b'.cell (p := ⟨w.heap.size, 0, none⟩) hlt).trans y0, (b'.cell (p := ⟨w.heap.size, 1, none⟩) hlt).trans y1, (b'.cell (p := ⟨w.heap.size, 2, none⟩) hlt).trans y2, (b'.cell (p := ⟨w.heap.size, 3, none⟩) hlt).trans y3, (b'.cell (p := ⟨w.heap.size, 4, none⟩) hlt).trans y4⟩
  have HGb : Hid (∀ w', Below w1.heap.size w1 w' → Below w.heap.size w w' ∧ Grd n0 w' (.slice a os.length cap) (.slice b ts.length bcap) (.slice ah g.hs.length hcap) (.slice ar g.rg.length rcap) (.slice aq g.qu.length qcap) os ts g) := fun w' b' => ⟨l1.trans (b'.mono l1.size), Hg.out.below ((l1.trans (b'.mono l1.size)).mono hn)⟩
  go_enter Tryz.func11, Tryz.ntmps11
  go_wp2
  go_loopw [3, 4, 5] (fun v3 v4 _ wr => ∃ k : Nat, k ≤ ts.length ∧ v4 = .int .i64 k ∧ Hid (wr.ownsRow w1.heap.size 3 1 v3 (slotsF (g.slots.take k)).length (Kg.ints (slotsF (g.slots.take k)))) ∧ Hid (Below w1.heap.size w1 wr)) (fun _ v4 _ _ => ts.length - (intOf v4).toNat)
  case atStart => exact ⟨0, Nat.zero_le _, rfl, World.ownsRow_nil _ _ _ _, Below.refl _ _⟩
  case round =>
    obtain ⟨k, hk, rfl, Hr, Hb⟩ := hrel
    obtain ⟨a3, c3, hv3⟩ := own_slI Hr.out
    subst hv3
    obtain ⟨z0, z1, z2, z3, z4⟩ := HK.out _ Hb.out
    by_cases hkl : k < ts.length
    · have hki : (k : Int) < (ts.length : Int) := by omega
      have hz : ts[k]? = some (ts[k]'hkl) := List.getElem?_eq_getElem hkl
      generalize ts[k]'hkl = x at hz
      obtain ⟨a', cap', ea, hob⟩ := (HGb.out _ Hb.out).2.sl
      cases ea
      obtain ⟨hp, q, off, rfl, hq, hc⟩ := hob k x hz
      have Hz : Hid (g.slots[k]? = some (x.2.map (·.2))) := by show _ = _; rw [Hes.out, List.getElem?_map, hz]; rfl
      have hxl := (Hs.out.f x (List.mem_of_getElem? hz)).1
      have Hp2 : Hid (∀ w', Below w1.heap.size w1 w' → Frd n0 w' x.1 x.2 ∧ w'.cell? ⟨q, off + k, none⟩ = some x.1) := fun w' b' => by
        obtain ⟨_, _, eb, hob'⟩ := (HGb.out _ b').2.sl
        obtain ⟨h1, _, _, h3, _, h4⟩ := hob' k x hz
        cases eb
        cases h3
        exact ⟨h1, h4⟩
      obtain ⟨ap, cp, ep, -⟩ := hp
      rw [ep] at hc Hp2
      have Hsl : Hid ((slotsF (g.slots.take (k + 1))).length ≤ 1000000000000) := by
        have h1 := slotsF_take g.slots (k + 1)
        have := Hel.out
        show _ ≤ _
        omega
      clear hob hz ep
      go_wp2
      go_loopw [3, 5] (fun v3 v5 wr => ∃ f : Nat, f ≤ x.2.length ∧ v5 = .int .i64 f ∧ Hid (wr.ownsRow w1.heap.size 3 1 v3 (slotsG g.slots k (x.2.map (·.2)) f).length (Kg.ints (slotsG g.slots k (x.2.map (·.2)) f))) ∧ Hid (Below w1.heap.size w1 wr)) (fun _ v5 _ => x.2.length - (intOf v5).toNat)
      case atStart => exact ⟨0, Nat.zero_le _, rfl, by rw [slotsG_zero]; exact Hr, Hb⟩
      case round =>
        obtain ⟨f, hf, rfl, Hr2, Hb2⟩ := hrel
        obtain ⟨a4, c4, hv4⟩ := own_slI Hr2.out
        subst hv4
        clear z0 z1 z2 z3 z4 hc
        obtain ⟨z0, z1, z2, z3, z4⟩ := HK.out _ Hb2.out
        obtain ⟨hfr, hc⟩ := Hp2.out _ Hb2.out
        by_cases hfl : f < x.2.length
        · have hfi : (f : Int) < (x.2.length : Int) := by omega
          have hy : x.2[f]? = some (x.2[f]'hfl) := List.getElem?_eq_getElem hfl
          generalize x.2[f]'hfl = y at hy
          obtain ⟨a'', cap'', ea, hob⟩ := hfr
          cases ea
          obtain ⟨hpp, q', off', rfl, hq', hc'⟩ := hob f y hy
          have Hy : Hid ((x.2.map (·.2))[f]? = some y.2) := by show _ = _; rw [List.getElem?_map, hy]; rfl
          have He : Hid (slotsG g.slots k (x.2.map (·.2)) (f + 1) = slotsG g.slots k (x.2.map (·.2)) f ++ y.2) := slotsG_snoc Hy.out
          have Hle : Hid ((slotsG g.slots k (x.2.map (·.2)) f).length + y.2.length ≤ 1000000000000) := by
            have h1 := slotsG_le Hz.out (f + 1)
            have h2 := congrArg List.length He.out
            rw [List.length_append] at h2
            have := Hsl.out
            show _ ≤ _
            omega
          have HN0 := hpp
          obtain ⟨ay, cy, ey, -⟩ := hpp
          rw [ey] at hc' HN0
          have HN : Hid (∀ (j : Nat) u, (Kg.ints y.2)[j]? = some u → ∃ ad, ay = some ad ∧ wr.cell? (ad.add j) = some u) := lrd_news HN0
          clear hob hy ey HN0
          go_wp2_with (at_builtin; refine Kg.wpList_append_row rfl _ _ 24 rfl w1.heap.size 3 i0 (.int .i64 0) 8 Tryz.underlying24 HI.out.1 HI.out.2.1 HI.out.2.2.1 HI.out.2.2.2 rfl _ _ _ rfl Hr2.out ay y.2.length cy (Kg.ints y.2) (by simp [Kg.ints]) rfl HN.out (by simp [Kg.ints, Value.oneCell']) (by have := Hle.out; simp only [maxLen]; omega) (by have := Hle.out; omega) Hb2.out.size ?_; intro v' w8 hown' hgrow _ hat _)
          go_roundw
          case rel =>
            refine ⟨f + 1, by omega, by go_num, ?_, ?_⟩
            · show w8.ownsRow _ _ _ _ _ _
              rw [He.out, List.length_append]
              simp only [Kg.ints, List.map_append] at hown' ⊢
              exact hown'
            · have t8 : Kg.Touch (Value.slice a4 (slotsG g.slots k (x.2.map (·.2)) f).length c4).ownBlock.toList wr w8 := Kg.Touch.grown hgrow (fun y hy => by rw [Option.mem_toList]; exact hy)
              exact Hb2.out.trans (t8.below Hb2.out.size (fun y hy => by rw [Option.mem_toList] at hy; exact (Hr2.out.lt y hy).1))
          case measure => simp [intOf]; omega
        · have hfi : ¬ (f : Int) < (x.2.length : Int) := by omega
          have e9 : slotsG g.slots k (x.2.map (·.2)) f = slotsF (g.slots.take (k + 1)) := slotsG_all Hz.out (by simp; omega)
          rw [e9] at Hr2 ⊢
          obtain ⟨a'', cap'', ea, -⟩ := hfr
          cases ea
          go_wp2
          go_roundw
          case rel => exact ⟨k + 1, by omega, by go_num, Hr2, Hb2⟩
          case measure => simp [intOf]; omega
    · have hki : ¬ (k : Int) < (ts.length : Int) := by omega
      have e9 : g.slots.take k = g.slots := List.take_of_length_le (by rw [Hes.out, List.length_map]; omega)
      rw [e9] at Hr ⊢
      have HE0l : Hid ((slotsF g.slots).length = (slotsF g.slots).length) := rfl
      obtain ⟨E0, hE0⟩ : ∃ E', E' = slotsF g.slots := ⟨_, rfl⟩
      rw [← hE0] at Hr ⊢
      have HE0 : Hid (E0 = slotsF g.slots) := hE0
      clear HE0l
      have HE0l : Hid (E0.length = (slotsF g.slots).length) := by show _ = _; rw [hE0]
      clear hE0
      have HN1 : Hid (∀ (j : Nat) u, (Kg.ints g.hs)[j]? = some u → ∃ ad, ah = some ad ∧ wr.cell? (ad.add j) = some u) := lrd_news (HGb.out _ Hb.out).2.hs
      have Hle1 : Hid (E0.length + g.hs.length ≤ 1000000000000) := by
        have := Hel.out
        have := HE0l.out
        show _ ≤ _
        omega
      go_upto_region 10 with (at_builtin; refine Kg.wpList_append_row rfl _ _ 24 rfl w1.heap.size 3 i0 (.int .i64 0) 8 Tryz.underlying24 HI.out.1 HI.out.2.1 HI.out.2.2.1 HI.out.2.2.2 rfl _ _ _ rfl Hr.out ah g.hs.length hcap (Kg.ints g.hs) (by simp [Kg.ints]) rfl HN1.out (by simp [Kg.ints, Value.oneCell']) (by have := Hle1.out; simp only [maxLen]; omega) (by have := Hle1.out; omega) Hb.out.size ?_; intro v1 wA hown1 hgrow1 _ hat1 _)
      have t1 := Kg.Touch.grown (F := (Value.ownBlock _).toList) hgrow1 (fun y hy => by rw [Option.mem_toList]; exact hy)
      have Hb1 : Hid (Below w1.heap.size w1 wA) := Hb.out.trans (t1.below Hb.out.size (fun y hy => by rw [Option.mem_toList] at hy; exact (Hr.out.lt y hy).1))
      obtain ⟨E1, hE1⟩ : ∃ E', E' = E0 ++ g.hs := ⟨_, rfl⟩
      have HE1 : Hid (E1 = E0 ++ g.hs) := hE1
      have HE1l : Hid (E1.length = E0.length + g.hs.length) := by show _ = _; rw [hE1, List.length_append]
      have Hr1 : Hid (wA.ownsRow w1.heap.size 3 1 v1 E1.length (Kg.ints E1)) := by
        show wA.ownsRow _ _ _ _ _ _
        rw [HE1l.out, hE1]
        simp only [Kg.ints, List.map_append] at hown1 ⊢
        exact hown1
      obtain ⟨al1, cl1, hvl1⟩ := own_slI Hr1.out
      subst hvl1
      clear hown1 hgrow1 hat1 t1 hE1 z0 z1 z2 z3 z4
      obtain ⟨z0, z1, z2, z3, z4⟩ := HK.out _ Hb1.out
      have HN2 : Hid (∀ (j : Nat) u, (Kg.ints g.qu)[j]? = some u → ∃ ad, aq = some ad ∧ wA.cell? (ad.add j) = some u) := lrd_news (HGb.out _ Hb1.out).2.qu
      have Hle2 : Hid (E1.length + g.qu.length ≤ 1000000000000) := by
        have := Hel.out
        have := HE1l.out
        have := HE0l.out
        show _ ≤ _
        omega
      go_wp2_with (at_builtin; refine Kg.wpList_append_row rfl _ _ 24 rfl w1.heap.size 3 i0 (.int .i64 0) 8 Tryz.underlying24 HI.out.1 HI.out.2.1 HI.out.2.2.1 HI.out.2.2.2 rfl _ _ _ rfl Hr1.out aq g.qu.length qcap (Kg.ints g.qu) (by simp [Kg.ints]) rfl HN2.out (by simp [Kg.ints, Value.oneCell']) (by have := Hle2.out; simp only [maxLen]; omega) (by have := Hle2.out; omega) Hb1.out.size ?_; intro v2 wB hown2 hgrow2 _ hat2 _)
      have t2 := Kg.Touch.grown (F := (Value.ownBlock _).toList) hgrow2 (fun y hy => by rw [Option.mem_toList]; exact hy)
      have Hb2 : Hid (Below w1.heap.size w1 wB) := Hb1.out.trans (t2.below Hb1.out.size (fun y hy => by rw [Option.mem_toList] at hy; exact (Hr1.out.lt y hy).1))
      obtain ⟨E2, hE2⟩ : ∃ E', E' = E1 ++ g.qu := ⟨_, rfl⟩
      have HE2 : Hid (E2 = E1 ++ g.qu) := hE2
      have HE2l : Hid (E2.length = E1.length + g.qu.length) := by show _ = _; rw [hE2, List.length_append]
      have Hr2 : Hid (wB.ownsRow w1.heap.size 3 1 v2 E2.length (Kg.ints E2)) := by
        show wB.ownsRow _ _ _ _ _ _
        rw [HE2l.out, hE2]
        simp only [Kg.ints, List.map_append] at hown2 ⊢
        exact hown2
      obtain ⟨al2, cl2, hvl2⟩ := own_slI Hr2.out
      subst hvl2
      clear hown2 hgrow2 hat2 t2 z0 z1 z2 z3 z4
      have HEE : Hid (Il wB w.heap.size (.slice al2 E2.length cl2) (slotsF g.slots ++ (g.hs ++ g.qu)) ∧ Below w.heap.size w wB) := by
        refine ⟨?_, (HGb.out _ Hb2.out).1⟩
        have e9 : E2 = slotsF g.slots ++ (g.hs ++ g.qu) := by rw [HE2.out, HE1.out, HE0.out, List.append_assoc]
        rw [← e9]
        exact Kg.row_base Hr2.out (by rw [e1]; omega)
      clear hE2
      go_wp2
      go_ret
      exact ⟨_, rfl, HEE.out⟩
end Go.Proofs.YtkekaifiahjljaaGreatDoor
namespace Go.Proofs.YtkekaifiahjljaaGreatDoor
open Go.RowKit Go.Shelf Go.Proofs.YtkekaifiahjljaaGreatDoor.Lt
theorem Grd.obj {n0 : Nat} {w : World} {oa : Option Addr} {oc : Nat} {vs vh vr vq : Value} {os : List OL} {ts : List (Value × List (Value × List Int))} {g : Im.Gr} (h : Grd n0 w (.slice oa os.length oc) vs vh vr vq os ts g) {k : Nat} {o : OL} (hk : os[k]? = some o) :
    ∃ qo off pa pc ra rc, oa = some ⟨qo, off, none⟩ ∧ o.vp = .slice pa o.o.ps.length pc ∧ o.vr = .slice ra o.o.rs.length rc ∧ Lrd n0 w o.vp .i64 o.o.ps ∧ g.obs[k]? = some o.o ∧ w.cell? ⟨qo, off + k * 5, none⟩ = some (.int .u64 (o.o.ser : Int)) ∧ w.cell? ⟨qo, off + k * 5 + 1, none⟩ = some (.int .i64 o.o.kind) ∧ w.cell? ⟨qo, off + k * 5 + 2, none⟩ = some (.int .i64 o.o.site) ∧ w.cell? ⟨qo, off + k * 5 + 3, none⟩ = some (.slice pa o.o.ps.length pc) ∧ w.cell? ⟨qo, off + k * 5 + 4, none⟩ = some (.slice ra o.o.rs.length rc) := by
  obtain ⟨oa', oc', eo, hob⟩ := h.ob
  simp only [Value.slice.injEq] at eo
  obtain ⟨rfl, -, rfl⟩ := eo
  obtain ⟨lp, lr, qo, off, rfl, hqo, hco⟩ := hob k o hk
  have c0 := (hco 0 (by omega)).trans (show _ = some (Value.int .u64 (o.o.ser : Int)) from rfl)
  have c1 := (hco 1 (by omega)).trans (show _ = some (Value.int .i64 o.o.kind) from rfl)
  have c2 := (hco 2 (by omega)).trans (show _ = some (Value.int .i64 o.o.site) from rfl)
  have c3 := (hco 3 (by omega)).trans (show _ = some o.vp from rfl)
  have c4 := (hco 4 (by omega)).trans (show _ = some o.vr from rfl)
  obtain ⟨pa, pc, ep, -, -⟩ := id lp
  obtain ⟨ra, rc, er, -, -⟩ := id lr
  rw [List.length_map] at er
  refine ⟨qo, off, pa, pc, ra, rc, rfl, ep, er, lp, by rw [h.eo, List.getElem?_map, hk]; rfl, c0, c1, c2, by rw [← ep]; exact c3, by rw [← er]; exact c4⟩
end Go.Proofs.YtkekaifiahjljaaGreatDoor
