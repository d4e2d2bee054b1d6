import Derived.Test.YtkekaifiahjljaaGreatDoorC36
import Derived.Test.YtkekaifiahjljaaGreatDoorC27
set_option linter.unusedVariables false
set_option maxHeartbeats 8000000
set_option maxRecDepth 20000
namespace Go.Proofs.YtkekaifiahjljaaGreatDoor
open Go.RowKit Go.Shelf Go.Proofs.YtkekaifiahjljaaGreatDoor.Lt
def Wyk (n0 R : Nat) (w : World) (v : Value) (m : Nat) (W : Nat → List Nat) : Prop := ∀ (G : List Nat) (w' : World), Kg.Touch G w w' → (∀ k, k ∈ G → k = R ∨ n0 ≤ k) → Wys n0 w' v m W
theorem Wyk.next {n0 R m : Nat} {w w' : World} {v : Value} {W : Nat → List Nat} (h : Wyk n0 R w v m W) {G : List Nat} (t : Kg.Touch G w w') (hG : ∀ k, k ∈ G → k = R ∨ n0 ≤ k) : Wyk n0 R w' v m W := fun G' w2 t' hG' =>
  h (G ++ G') w2 ((t.mono (fun k hk => .inl (List.mem_append_left _ hk))).trans (t'.mono (fun k hk => .inl (List.mem_append_right _ hk)))) (fun k hk => (List.mem_append.1 hk).elim (hG k) (hG' k))
theorem wyk_new {n0 R m : Nat} {w : World} {v : Value} {W : Nat → List Nat} (h : Wys n0 w v m W) (hn : n0 ≤ w.heap.size) (hR : n0 ≤ R) : Wyk n0 R w v m W := fun G w' t hG => h.below (t.below hn (fun k hk => by
  rcases hG k hk with rfl | h1
  · exact hR
  · exact h1))
theorem wyk_old {n0 R m : Nat} {w : World} {v : Value} {W : Nat → List Nat} (h : Wys n0 w v m W) (hn : n0 ≤ w.heap.size) {cs : Array Value} {t : TypeId} (hR : w.heap[R]? = some (.cells cs t (0, 0))) (hc : ∀ (i : Nat) k z, cs[i]? ≠ some (.int k z)) (hq : ∀ q cap, v = .slice (some ⟨q, 0, none⟩) m cap → q ≠ R) : Wyk n0 R w v m W := fun G w' t hG => by
  obtain ⟨q, cap, rfl, h2, h3⟩ := h
  have out : ∀ k, k < n0 → k ≠ R → k ∉ G := fun k h4 h5 hm => by
    rcases hG k hm with h6 | h6
    · exact h5 h6
    · omega
  refine ⟨q, cap, rfl, h2, fun i hi => ?_⟩
  obtain ⟨u, h4, a, c, h5, h6, h7⟩ := h3 i hi
  refine ⟨u, (touch_cell t (by omega) (out q h2 (hq q cap rfl)) i).trans h4, a, c, h5, h6, fun f z hz => ?_⟩
  obtain ⟨p, off, e1, e2, e3⟩ := h7 f z hz
  refine ⟨p, off, e1, e2, (touch_cell t (by omega) (out p e2 (fun e => ?_)) (off + f)).trans e3⟩
  rw [e] at e3
  rw [Kg.heap_cell hR] at e3
  exact hc _ _ _ e3
theorem Wys.mono {n0 n1 m : Nat} {w : World} {v : Value} {W : Nat → List Nat} (h : Wys n0 w v m W) (hn : n0 ≤ n1) : Wys n1 w v m W := by
  obtain ⟨q, cap, h1, h2, h3⟩ := h
  refine ⟨q, cap, h1, Nat.lt_of_lt_of_le h2 hn, fun i hi => ?_⟩
  obtain ⟨u, h4, h5⟩ := h3 i hi
  exact ⟨u, h4, h5.mono hn⟩
theorem Wb.mono {w : World} {B B' wb R m : Nat} {vw vp : Value} {vs : Nat → Value} {P : List Ep} {L : Nat → List Ep} (h : Wb w B wb R m vw vp vs P L) (hB : B' ≤ B) : Wb w B' wb R m vw vp vs P L :=
  ⟨h.h, Kg.row_base h.p hB, ⟨h.l.h, fun i hi => Kg.row_base (h.l.l i hi) hB, h.l.d, Nat.le_trans hB h.l.lo⟩, h.pl, Nat.le_trans hB h.lo⟩
theorem oe_no {o : Im.Ob} {i : Nat} (h : o.kind ≠ 3 ∨ o.ps[0]? = some 0 ∨ o.ps[1]? = some 0) : oe17 o i = none := by
  unfold oe17
  cases hp : o.ps with
  | nil => rfl
  | cons a r =>
    cases r with
    | nil => rfl
    | cons b r =>
      rw [hp] at h
      simp only [List.getElem?_cons_zero, List.getElem?_cons_succ, Option.some.injEq] at h
      show (if o.kind = 3 ∧ a ≠ 0 ∧ b ≠ 0 then _ else none) = none
      rw [if_neg (fun k => by
        rcases h with h1 | h1 | h1
        · exact h1 k.1
        · exact k.2.1 h1
        · exact k.2.2 h1)]
set_option maxHeartbeats 16000000 in
theorem webOf_any (n0 : Nat) (w : World) (vo vs vh vr vq : Value) (os : List OL) (ts : List (Value × List (Value × List Int))) (g : Im.Gr) (hg : Grd n0 w vo vs vh vr vq os ts g) (hn : n0 ≤ w.heap.size) (hm : MB g) (hol : os.length ≤ 1999999) (hs : Sln ts) (hlen : (g.hs ++ g.qu).length + (slotsF g.slots).length ≤ 1000000000) (m : Nat) (hmm : m = os.length + 1) :
    Calls Tryz.prog 65 #[.agg (gcs vo vs vh vr vq g.next)] w fun e w' => ∃ (wb R : Nat) (vw vp : Value) (vx : Nat → Value) (L : Nat → List Ep), e = .returned (.pointer (some ⟨wb, 0, none⟩)) ∧ Wb w' w.heap.size wb R m vw vp vx (pe17 g) L ∧ Wl (pe17 g) L ∧ Wys w'.heap.size w' vw m (wz17 g) ∧ Below w.heap.size w w' := by
  have l1 : Below w.heap.size w (w.alloc (.cells (gcs vo vs vh vr vq g.next) 27)) := Below.alloc (Below.refl _ _) (Nat.le_refl _) _
  have hx := heap_alloc_new w (.cells (gcs vo vs vh vr vq g.next) 27 (0, 0))
  obtain ⟨oa, oc, eo, -⟩ := id hg.ob
  subst eo
  generalize hW : w.alloc (.cells (gcs (.slice oa os.length oc) vs vh vr vq g.next) 27) = W at *
  obtain ⟨A, hA⟩ : ∃ A, A = w.heap.size := ⟨_, rfl⟩
  rw [← hA] at hx
  have HA : Hid (A = w.heap.size) := hA
  have y0 : W.cell? ⟨A, 0, none⟩ = some (.slice oa os.length oc) := Kg.heap_cell hx 0
  have y1 : W.cell? ⟨A, 1, none⟩ = some vs := Kg.heap_cell hx 1
  have y2 : W.cell? ⟨A, 2, none⟩ = some vh := Kg.heap_cell hx 2
  have y3 : W.cell? ⟨A, 3, none⟩ = some vr := Kg.heap_cell hx 3
  have y4 : W.cell? ⟨A, 4, none⟩ = some vq := Kg.heap_cell hx 4
  have y5 : W.cell? ⟨A, 5, none⟩ = some (.int .u64 (g.next : Int)) := Kg.heap_cell hx 5
  have HQ : Hid (∀ w', Below W.heap.size W w' → Calls Tryz.prog 27 #[.agg (gcs (.slice oa os.length oc) vs vh vr vq g.next)] w' fun e w2 => ∃ v rs, e = .returned v ∧ w2.ownsRow w'.heap.size 24 1 v m rs ∧ Wrd w2.heap.size w2 g rs ∧ Below w'.heap.size w' w2) := fun w' b' => by
    rw [hmm]
    exact waysOf_any n0 w' _ vs vh vr vq os ts g (hg.below ((l1.trans (b'.mono l1.size)).mono hn)) (Nat.le_trans hn (Nat.le_trans l1.size b'.size)) hm (by omega) hs hlen
  have HAw : Hid (A < W.heap.size) := Kg.heap_lt hx
  have HL1 : Hid (Below w.heap.size w W) := l1
  have HM : Hid (MB g) := hm
  have HG : Hid (∀ w', Below W.heap.size W w' → Grd n0 w' (.slice oa os.length oc) vs vh vr vq os ts g) := fun w' b' => hg.below ((l1.trans (b'.mono l1.size)).mono hn)
  have HMM : Hid (m = os.length + 1) := hmm
  have hmi : (os.length : Int) + 1 = (m : Int) := by omega
  have hm1 : m ≤ 2000000 := by omega
  have mkE := make_ephs17 m (by omega)
  have hwm : IntKind.i64.wrap (m : Int) = (m : Int) := by rw [IntKind.wrap_i64]; omega
  clear hg hx l1 hm hs hlen hA hmm
  go_enter Tryz.func65, Tryz.ntmps65
  go_upto_region 1 with fail
  rw [← HA.out]
  go_cut [3] from 6 to 15 (fun v3 wq => ∃ (wb R n2 : Nat) (vw : Value), v3 = .pointer (some ⟨wb, 0, none⟩) ∧ Hid (Wb wq W.heap.size wb R m vw (.slice none 0 0) (fun _ => .slice none 0 0) [] (fun _ => [])) ∧ Hid (Wyk n2 R wq vw m (wz17 g)) ∧ Hid (n2 ≤ wb ∧ W.heap.size ≤ wb ∧ n2 ≤ wq.heap.size) ∧ Hid (Below W.heap.size W wq))
  case first =>
    refine wp_region_held_drew (S := fun w' => w'.cell? ⟨A, 0, none⟩ = some (.slice oa os.length oc) ∧ w'.cell? ⟨A, 1, none⟩ = some vs ∧ w'.cell? ⟨A, 2, none⟩ = some vh ∧ w'.cell? ⟨A, 3, none⟩ = some vr ∧ w'.cell? ⟨A, 4, none⟩ = some vq ∧ w'.cell? ⟨A, 5, none⟩ = some (.int .u64 (g.next : Int))) Kg.mixed ⟨y0, y1, y2, y3, y4, y5⟩ (fun hHeld => ?_)
    refine wpAnyH_take (i := 0) (v := (.agg (gcs (.slice oa os.length oc) vs vh vr vq g.next))) rfl (by kernel_rfl) (by kernel_rfl) (by kernel_rfl) (fun _ _ _ h => h) (Or.inl ⟨by rfl, fun wx hSw => ?_⟩) (by assumption) ?_
    · obtain ⟨s0, s1, s2, s3, s4, s5⟩ := hSw
      go_simp
    change wpAnyH _ _ _ _ _ _ _ (Act.put _ (some 6) (.agg (gcs (.slice oa os.length oc) vs vh vr vq g.next))) _
    simp only [Act.put, List.setIfInBounds_toArray, List.set_cons_zero, List.set_cons_succ]
    refine wpAnyH_take (i := 2) (v := (.pointer (some ⟨A, 0, none⟩))) rfl (by kernel_rfl) (by kernel_rfl) (by kernel_rfl) (fun _ _ _ h => h) (Or.inl ⟨by rfl, fun wx hSw => ?_⟩) (by assumption) ?_
    · obtain ⟨s0, s1, s2, s3, s4, s5⟩ := hSw
      go_simp
    change wpAnyH _ _ _ _ _ _ _ (Act.put _ (some 8) (.pointer (some ⟨A, 0, none⟩))) _
    simp only [Act.put, List.setIfInBounds_toArray, List.set_cons_zero, List.set_cons_succ]
    refine wpAnyH_take (i := 3) (v := (.slice oa os.length oc)) rfl (by kernel_rfl) (by kernel_rfl) (by kernel_rfl) (fun _ _ _ h => h) (Or.inl ⟨by rfl, fun wx hSw => ?_⟩) (by assumption) ?_
    · obtain ⟨s0, s1, s2, s3, s4, s5⟩ := hSw
      go_simp
    change wpAnyH _ _ _ _ _ _ _ (Act.put _ (some 9) (.slice oa os.length oc)) _
    simp only [Act.put, List.setIfInBounds_toArray, List.set_cons_zero, List.set_cons_succ]
    refine wpAnyH_take (i := 4) (v := (.int .i64 (os.length : Nat))) rfl (by kernel_rfl) (by kernel_rfl) (by kernel_rfl) (fun _ _ _ h => h) (Or.inl ⟨by rfl, fun wx hSw => ?_⟩) (by assumption) ?_
    · obtain ⟨s0, s1, s2, s3, s4, s5⟩ := hSw
      go_simp
    change wpAnyH _ _ _ _ _ _ _ (Act.put _ (some 10) (.int .i64 (os.length : Nat))) _
    simp only [Act.put, List.setIfInBounds_toArray, List.set_cons_zero, List.set_cons_succ]
    refine wpAnyH_take (i := 5) (v := (.int .i64 (m : Nat))) rfl (by kernel_rfl) (by kernel_rfl) (by kernel_rfl) (fun _ _ _ h => h) (Or.inl ⟨by rfl, fun wx hSw => ?_⟩) (by assumption) ?_
    · obtain ⟨s0, s1, s2, s3, s4, s5⟩ := hSw
      go_simp
    change wpAnyH _ _ _ _ _ _ _ (Act.put _ (some 11) (.int .i64 (m : Nat))) _
    simp only [Act.put, List.setIfInBounds_toArray, List.set_cons_zero, List.set_cons_succ]
    refine wpAnyH_ready (rs := [1, 6]) (by kernel_rfl) (by simp) (AllReadyH.cons rfl (fun K hK => ?_) (AllReadyH.cons rfl (fun K hK => ?_) AllReadyH.nil))
    · go_simp
      refine (HQ.out W.drew (below_drewN (Below.refl _ _) 1)).mono ?_
      rintro e w6 ⟨v6, rs, rfl, r6, h6, b6⟩
      obtain ⟨va, vc, rfl⟩ := own_sl17 r6
      have b06 : Below W.heap.size W w6 := (below_drewN (Below.refl W.heap.size W) 1).trans b6
      have hw6 : Wys w6.heap.size w6 (.slice va m vc) m (wz17 g) := wys_of HM.out (by have := HMM.out; omega) r6 h6
      refine hK.out _ _ ⟨(b06.cell (p := ⟨A, 0, none⟩) HAw.out).trans y0, (b06.cell (p := ⟨A, 1, none⟩) HAw.out).trans y1, (b06.cell (p := ⟨A, 2, none⟩) HAw.out).trans y2, (b06.cell (p := ⟨A, 3, none⟩) HAw.out).trans y3, (b06.cell (p := ⟨A, 4, none⟩) HAw.out).trans y4, (b06.cell (p := ⟨A, 5, none⟩) HAw.out).trans y5⟩ (fun _ => ?_)
      clear hK K
      refine wpAnyH_ready (rs := [6]) (by kernel_rfl) (by simp) (AllReadyH.cons rfl (fun K hK => ?_) AllReadyH.nil)
      go_simp
      have b7 : Below W.heap.size W (w6.alloc (.cells (madeCells #[.slice none 0 0] m) 101)) := b06.trans ((Below.alloc (Below.refl w6.heap.size w6) (Nat.le_refl _) _).mono b06.size)
      have hl7 := Le.new w6 m
      have hs6 : W.heap.size ≤ w6.heap.size := b06.size
      obtain ⟨R, hR⟩ : ∃ R, R = w6.heap.size := ⟨_, rfl⟩
      rw [← hR] at hl7 hs6 ⊢
      have HL7 : Hid (Le (w6.alloc (.cells (madeCells #[.slice none 0 0] m) 101)) W.heap.size R m (fun _ => .slice none 0 0) (fun _ => [])) := ⟨hl7.h, fun i hi => World.ownsRow_nil _ _ _ _, hl7.d, hs6⟩
      obtain ⟨n2, hn2⟩ : ∃ n2, n2 = w6.heap.size := ⟨_, rfl⟩
      rw [← hn2] at hw6
      have HK7 : Hid (Wyk n2 R (w6.alloc (.cells (madeCells #[.slice none 0 0] m) 101)) (.slice va m vc) m (wz17 g)) := (wyk_new hw6 (by omega) (by omega)).next (Kg.Touch.alloc [] _ _) (fun _ h => by simp at h)
      have hn27 : n2 ≤ (w6.alloc (.cells (madeCells #[.slice none 0 0] m) 101)).heap.size := by simp; omega
      clear hl7 hs6 hR hn2 hw6 h6 r6 b6 b06
      generalize w6.alloc (.cells (madeCells #[.slice none 0 0] m) 101) = w7 at *
      refine hK.out _ _ ⟨(b7.cell (p := ⟨A, 0, none⟩) HAw.out).trans y0, (b7.cell (p := ⟨A, 1, none⟩) HAw.out).trans y1, (b7.cell (p := ⟨A, 2, none⟩) HAw.out).trans y2, (b7.cell (p := ⟨A, 3, none⟩) HAw.out).trans y3, (b7.cell (p := ⟨A, 4, none⟩) HAw.out).trans y4, (b7.cell (p := ⟨A, 5, none⟩) HAw.out).trans y5⟩ (fun _ => ?_)
      clear hK K
      refine wpAnyH_take (i := 7) (v := (.agg #[.slice va m vc, .slice none 0 0, (.slice (some ⟨R, 0, none⟩) m m)])) rfl (by kernel_rfl) (by kernel_rfl) (by kernel_rfl) (fun _ _ _ h => h) (Or.inl ⟨by rfl, fun wx hSw => ?_⟩) (by assumption) ?_
      · obtain ⟨s0, s1, s2, s3, s4, s5⟩ := hSw
        go_simp
      change wpAnyH _ _ _ _ _ _ _ (Act.put _ (some 13) (.agg #[.slice va m vc, .slice none 0 0, (.slice (some ⟨R, 0, none⟩) m m)])) _
      simp only [Act.put, List.setIfInBounds_toArray, List.set_cons_zero, List.set_cons_succ]
      refine wpAnyH_ready (rs := [8]) (by kernel_rfl) (by simp) (AllReadyH.cons rfl (fun K hK => ?_) AllReadyH.nil)
      go_simp
      have hX := heap_alloc_new w7 (.cells #[.slice va m vc, .slice none 0 0, (.slice (some ⟨R, 0, none⟩) m m)] 153 (0, 0))
      have b8 : Below W.heap.size W (w7.alloc (.cells #[.slice va m vc, .slice none 0 0, (.slice (some ⟨R, 0, none⟩) m m)] 153)) := b7.trans ((Below.alloc (Below.refl w7.heap.size w7) (Nat.le_refl _) _).mono b7.size)
      have HL8 : Hid (Le (w7.alloc (.cells #[.slice va m vc, .slice none 0 0, (.slice (some ⟨R, 0, none⟩) m m)] 153)) W.heap.size R m (fun _ => .slice none 0 0) (fun _ => [])) := HL7.out.keep (Kg.Touch.alloc [] _ _) (fun _ _ => List.not_mem_nil)
      have HK8 : Hid (Wyk n2 R (w7.alloc (.cells #[.slice va m vc, .slice none 0 0, (.slice (some ⟨R, 0, none⟩) m m)] 153)) (.slice va m vc) m (wz17 g)) := HK7.out.next (Kg.Touch.alloc [] _ _) (fun _ h => by simp at h)
      have hne : W.heap.size ≤ w7.heap.size := b7.size
      obtain ⟨wb, hwb⟩ : ∃ wb, wb = w7.heap.size := ⟨_, rfl⟩
      rw [← hwb] at hX hne ⊢
      have HN8 : Hid (n2 ≤ wb ∧ W.heap.size ≤ wb ∧ n2 ≤ (w7.alloc (.cells #[.slice va m vc, .slice none 0 0, (.slice (some ⟨R, 0, none⟩) m m)] 153)).heap.size) := ⟨by rw [hwb]; exact hn27, hne, by simp; omega⟩
      clear hwb
      generalize w7.alloc (.cells #[.slice va m vc, .slice none 0 0, (.slice (some ⟨R, 0, none⟩) m m)] 153) = w8 at *
      refine hK.out _ _ ⟨(b8.cell (p := ⟨A, 0, none⟩) HAw.out).trans y0, (b8.cell (p := ⟨A, 1, none⟩) HAw.out).trans y1, (b8.cell (p := ⟨A, 2, none⟩) HAw.out).trans y2, (b8.cell (p := ⟨A, 3, none⟩) HAw.out).trans y3, (b8.cell (p := ⟨A, 4, none⟩) HAw.out).trans y4, (b8.cell (p := ⟨A, 5, none⟩) HAw.out).trans y5⟩ (fun _ => ?_)
      clear hK K
      refine wpAnyH_ready (rs := [9]) (by kernel_rfl) (by simp) (AllReadyH.cons rfl (fun K hK => ?_) AllReadyH.nil)
      go_simp
      refine hK.out _ _ ⟨(b8.cell (p := ⟨A, 0, none⟩) HAw.out).trans y0, (b8.cell (p := ⟨A, 1, none⟩) HAw.out).trans y1, (b8.cell (p := ⟨A, 2, none⟩) HAw.out).trans y2, (b8.cell (p := ⟨A, 3, none⟩) HAw.out).trans y3, (b8.cell (p := ⟨A, 4, none⟩) HAw.out).trans y4, (b8.cell (p := ⟨A, 5, none⟩) HAw.out).trans y5⟩ (fun _ => ?_)
      clear hK K
      refine wpAnyH_done (by kernel_rfl) ?_ _
      have HR : Hid (Wb w8 W.heap.size wb R m (.slice va m vc) (.slice none 0 0) (fun _ => .slice none 0 0) [] (fun _ => [])) := ⟨hX, World.ownsRow_nil _ _ _ _, HL8.out, fun k hk => by simp [Value.ownBlock] at hk, hne⟩
      have HB8 : Hid (Below W.heap.size W w8) := b8
      clear hX hne b7 b8 HL7 HL8 HK7
      go_wp2_with fail
      go_meet
      exact ⟨wb, R, n2, .slice va m vc, rfl, HR, HK8, HN8, HB8⟩
    · go_simp
      have b5 : Below W.heap.size W (W.alloc (.cells (madeCells #[.slice none 0 0] m) 101)).drew := below_drewN (Below.alloc (Below.refl W.heap.size W) (Nat.le_refl _) _) 1
      have hl5 : Le (W.alloc (.cells (madeCells #[.slice none 0 0] m) 101)).drew W.heap.size W.heap.size m (fun _ => .slice none 0 0) (fun _ => []) := (Le.new W m).keep (Kg.Touch.drew [] _) (fun _ _ => List.not_mem_nil)
      have hR5 : (W.alloc (.cells (madeCells #[.slice none 0 0] m) 101)).drew.heap[W.heap.size]? = some (.cells (madeCells #[.slice none 0 0] m) 101 (0, 0)) := heap_alloc_new W _
      have hs5 : W.heap.size < (W.alloc (.cells (madeCells #[.slice none 0 0] m) 101)).drew.heap.size := by show _ < (W.alloc _).heap.size; simp
      obtain ⟨R, hR⟩ : ∃ R, R = W.heap.size := ⟨_, rfl⟩
      have hRle : W.heap.size ≤ R := by omega
      rw [← hR] at hl5 hR5 hs5
      change K _ (W.alloc (.cells (madeCells #[.slice none 0 0] m) 101)).drew
      have HL5 : Hid (Le (W.alloc (.cells (madeCells #[.slice none 0 0] m) 101)).drew W.heap.size R m (fun _ => .slice none 0 0) (fun _ => [])) := ⟨hl5.h, fun i hi => World.ownsRow_nil _ _ _ _, hl5.d, hRle⟩
      rw [← hR]
      clear hR hl5
      generalize (W.alloc (.cells (madeCells #[.slice none 0 0] m) 101)).drew = w5 at *
      refine hK.out _ _ ⟨(b5.cell (p := ⟨A, 0, none⟩) HAw.out).trans y0, (b5.cell (p := ⟨A, 1, none⟩) HAw.out).trans y1, (b5.cell (p := ⟨A, 2, none⟩) HAw.out).trans y2, (b5.cell (p := ⟨A, 3, none⟩) HAw.out).trans y3, (b5.cell (p := ⟨A, 4, none⟩) HAw.out).trans y4, (b5.cell (p := ⟨A, 5, none⟩) HAw.out).trans y5⟩ (fun _ => ?_)
      clear hK K
      refine wpAnyH_ready (rs := [1]) (by kernel_rfl) (by simp) (AllReadyH.cons rfl (fun K hK => ?_) AllReadyH.nil)
      go_simp
      refine (HQ.out w5 b5).mono ?_
      rintro e w7 ⟨v6, rs, rfl, r6, h6, b6⟩
      obtain ⟨va, vc, rfl⟩ := own_sl17 r6
      have b7 : Below W.heap.size W w7 := b5.trans (b6.mono b5.size)
      have hw7 : Wys w7.heap.size w7 (.slice va m vc) m (wz17 g) := wys_of HM.out (by have := HMM.out; omega) r6 h6
      have HL7 : Hid (Le w7 W.heap.size R m (fun _ => .slice none 0 0) (fun _ => [])) := HL5.out.keep (Kg.Touch.of_below b6 []) (fun _ _ => List.not_mem_nil)
      obtain ⟨n2, hn2⟩ : ∃ n2, n2 = w7.heap.size := ⟨_, rfl⟩
      rw [← hn2] at hw7
      have hn27 : n2 ≤ w7.heap.size := by omega
      have HK7 : Hid (Wyk n2 R w7 (.slice va m vc) m (wz17 g)) := wyk_old hw7 hn27 ((b6.block R hs5).trans hR5) (fun i k z h => by
        rw [Array.getElem?_eq_some_iff] at h
        obtain ⟨h1, h2⟩ := h
        simp [madeCells, Nat.mod_one] at h2) (fun q cap e => by
        have h1 := World.ownsRow.lt r6 q (by rw [e]; rfl)
        omega)
      clear hw7 h6 r6 b5 b6 hn2 hR5 hs5 HL5
      refine hK.out _ _ ⟨(b7.cell (p := ⟨A, 0, none⟩) HAw.out).trans y0, (b7.cell (p := ⟨A, 1, none⟩) HAw.out).trans y1, (b7.cell (p := ⟨A, 2, none⟩) HAw.out).trans y2, (b7.cell (p := ⟨A, 3, none⟩) HAw.out).trans y3, (b7.cell (p := ⟨A, 4, none⟩) HAw.out).trans y4, (b7.cell (p := ⟨A, 5, none⟩) HAw.out).trans y5⟩ (fun _ => ?_)
      clear hK K
      refine wpAnyH_take (i := 7) (v := (.agg #[.slice va m vc, .slice none 0 0, (.slice (some ⟨R, 0, none⟩) m m)])) rfl (by kernel_rfl) (by kernel_rfl) (by kernel_rfl) (fun _ _ _ h => h) (Or.inl ⟨by rfl, fun wx hSw => ?_⟩) (by assumption) ?_
      · obtain ⟨s0, s1, s2, s3, s4, s5⟩ := hSw
        go_simp
      change wpAnyH _ _ _ _ _ _ _ (Act.put _ (some 13) (.agg #[.slice va m vc, .slice none 0 0, (.slice (some ⟨R, 0, none⟩) m m)])) _
      simp only [Act.put, List.setIfInBounds_toArray, List.set_cons_zero, List.set_cons_succ]
      refine wpAnyH_ready (rs := [8]) (by kernel_rfl) (by simp) (AllReadyH.cons rfl (fun K hK => ?_) AllReadyH.nil)
      go_simp
      have hX := heap_alloc_new w7 (.cells #[.slice va m vc, .slice none 0 0, (.slice (some ⟨R, 0, none⟩) m m)] 153 (0, 0))
      have b8 : Below W.heap.size W (w7.alloc (.cells #[.slice va m vc, .slice none 0 0, (.slice (some ⟨R, 0, none⟩) m m)] 153)) := b7.trans ((Below.alloc (Below.refl w7.heap.size w7) (Nat.le_refl _) _).mono b7.size)
      have HL8 : Hid (Le (w7.alloc (.cells #[.slice va m vc, .slice none 0 0, (.slice (some ⟨R, 0, none⟩) m m)] 153)) W.heap.size R m (fun _ => .slice none 0 0) (fun _ => [])) := HL7.out.keep (Kg.Touch.alloc [] _ _) (fun _ _ => List.not_mem_nil)
      have HK8 : Hid (Wyk n2 R (w7.alloc (.cells #[.slice va m vc, .slice none 0 0, (.slice (some ⟨R, 0, none⟩) m m)] 153)) (.slice va m vc) m (wz17 g)) := HK7.out.next (Kg.Touch.alloc [] _ _) (fun _ h => by simp at h)
      have hne : W.heap.size ≤ w7.heap.size := b7.size
      obtain ⟨wb, hwb⟩ : ∃ wb, wb = w7.heap.size := ⟨_, rfl⟩
      rw [← hwb] at hX hne ⊢
      have HN8 : Hid (n2 ≤ wb ∧ W.heap.size ≤ wb ∧ n2 ≤ (w7.alloc (.cells #[.slice va m vc, .slice none 0 0, (.slice (some ⟨R, 0, none⟩) m m)] 153)).heap.size) := ⟨by rw [hwb]; exact hn27, hne, by simp; omega⟩
      clear hwb
      generalize w7.alloc (.cells #[.slice va m vc, .slice none 0 0, (.slice (some ⟨R, 0, none⟩) m m)] 153) = w8 at *
      refine hK.out _ _ ⟨(b8.cell (p := ⟨A, 0, none⟩) HAw.out).trans y0, (b8.cell (p := ⟨A, 1, none⟩) HAw.out).trans y1, (b8.cell (p := ⟨A, 2, none⟩) HAw.out).trans y2, (b8.cell (p := ⟨A, 3, none⟩) HAw.out).trans y3, (b8.cell (p := ⟨A, 4, none⟩) HAw.out).trans y4, (b8.cell (p := ⟨A, 5, none⟩) HAw.out).trans y5⟩ (fun _ => ?_)
      clear hK K
      refine wpAnyH_ready (rs := [9]) (by kernel_rfl) (by simp) (AllReadyH.cons rfl (fun K hK => ?_) AllReadyH.nil)
      go_simp
      refine hK.out _ _ ⟨(b8.cell (p := ⟨A, 0, none⟩) HAw.out).trans y0, (b8.cell (p := ⟨A, 1, none⟩) HAw.out).trans y1, (b8.cell (p := ⟨A, 2, none⟩) HAw.out).trans y2, (b8.cell (p := ⟨A, 3, none⟩) HAw.out).trans y3, (b8.cell (p := ⟨A, 4, none⟩) HAw.out).trans y4, (b8.cell (p := ⟨A, 5, none⟩) HAw.out).trans y5⟩ (fun _ => ?_)
      clear hK K
      refine wpAnyH_done (by kernel_rfl) ?_ _
      have HR : Hid (Wb w8 W.heap.size wb R m (.slice va m vc) (.slice none 0 0) (fun _ => .slice none 0 0) [] (fun _ => [])) := ⟨hX, World.ownsRow_nil _ _ _ _, HL8.out, fun k hk => by simp [Value.ownBlock] at hk, hne⟩
      have HB8 : Hid (Below W.heap.size W w8) := b8
      clear hX hne b7 b8 HL7 HL8 HK7
      go_wp2_with fail
      go_meet
      exact ⟨wb, R, n2, .slice va m vc, rfl, HR, HK8, HN8, HB8⟩
  case rest =>
  obtain ⟨wb, R, n2, vw, rfl, HW2, HK2, HN2, HB2⟩ := hcut
  apply_assumption
  have y0' : wc.cell? ⟨A, 0, none⟩ = some (.slice oa os.length oc) := (HB2.out.cell (p := ⟨A, 0, none⟩) HAw.out).trans y0
  clear y0 y1 y2 y3 y4 y5 mkE hwm HQ
  go_wp2
  go_loopw [4, 5, 18] (fun _ _ v18 wr => ∃ (k : Nat) (vp : Value) (vx : Nat → Value) (L : Nat → List Ep), v18 = .int .i64 (k : Nat) ∧ k ≤ os.length ∧ Hid (Wb wr W.heap.size wb R m vw vp vx (pk17 g k) L) ∧ Hid (Wl (pk17 g k) L) ∧ Hid (Wyk n2 R wr vw m (wz17 g)) ∧ Hid (∀ x, x ∈ wbF wb R m vp vx → x = R ∨ n2 ≤ x) ∧ Hid (Below W.heap.size W wr) ∧ Hid (n2 ≤ wr.heap.size)) (fun _ _ v18 _ => os.length - (intOf v18).toNat)
  case atStart =>
    refine ⟨0, _, _, _, rfl, Nat.zero_le _, HW2.out, Wl.nil, HK2.out, fun x hx => ?_, HB2.out, HN2.out.2.2⟩
    rcases mem_wbF.1 hx with h1 | h1 | h1
    · exact .inr (by rw [h1]; exact HN2.out.1)
    · simp [Value.ownBlock] at h1
    · rcases mem_llF.1 h1 with h2 | ⟨i, -, h2⟩
      · exact .inl h2
      · simp [Value.ownBlock] at h2
  case round =>
    obtain ⟨k, vp, vx, L, rfl, hk, R1, R2, R3, R4, R5, R6⟩ := hrel
    clear y0'
    by_cases hkl : k < os.length
    · have hkI : (k : Int) < (os.length : Int) := by omega
      have hz : os[k]? = some (os[k]'hkl) := List.getElem?_eq_getElem hkl
      generalize os[k]'hkl = o at hz
      have gr := HG.out wr R5.out
      have hgo : g.obs[k]? = some o.o := by rw [gr.eo, List.getElem?_map, hz]; rfl
      have hfl := fst_le HM.out (List.mem_of_getElem? hgo)
      have HGo : Hid (g.obs[k]? = some o.o) := hgo
      obtain ⟨oa', oc', eo, hob⟩ := gr.ob
      simp only [Value.slice.injEq] at eo
      obtain ⟨rfl, -, rfl⟩ := eo
      obtain ⟨lp, lr, qo, off, rfl, hqo, hco⟩ := hob k o hz
      have c0 := (hco 0 (by omega)).trans (show _ = some (Value.int .u64 (o.o.ser : Int)) from rfl)
      have c1' := (hco 1 (by omega)).trans (show _ = some (Value.int .i64 o.o.kind) from rfl)
      have c2 := (hco 2 (by omega)).trans (show _ = some (Value.int .i64 o.o.site) from rfl)
      have c3 := (hco 3 (by omega)).trans (show _ = some o.vp from rfl)
      have c4 := (hco 4 (by omega)).trans (show _ = some o.vr from rfl)
      rw [Nat.add_zero] at c0
      have HLP : Hid (Lrd n0 wr o.vp .i64 o.o.ps) := lp
      obtain ⟨pa, pc, ep, hpc, -⟩ := lp
      obtain ⟨ra, rc, er, -, -⟩ := lr
      rw [ep] at c3 HLP
      rw [er] at c4
      have HPk : Hid (pk17 g (k + 1) = pk17 g k ++ (oe17 o.o k).toList) := pk_step hgo
      clear hob hco hz gr hgo ep er
      go_upto_region 5 with fail
      obtain ⟨A5, hA5⟩ : ∃ A5, A5 = wr.heap.size := ⟨_, rfl⟩
      have b5 : Below wr.heap.size wr (wr.alloc (.cells (ocs o.o.ser o.o.kind o.o.site (.slice pa o.o.ps.length pc) (.slice ra o.o.rs.length rc)) 39)) := Below.alloc (Below.refl _ _) (Nat.le_refl _) _
      have hx5 := heap_alloc_new wr (.cells (ocs o.o.ser o.o.kind o.o.site (.slice pa o.o.ps.length pc) (.slice ra o.o.rs.length rc)) 39 (0, 0))
      have HLP5 : Hid (Lrd n0 (wr.alloc (.cells (ocs o.o.ser o.o.kind o.o.site (.slice pa o.o.ps.length pc) (.slice ra o.o.rs.length rc)) 39)) (.slice pa o.o.ps.length pc) .i64 o.o.ps) := HLP.out.below (b5.mono (Nat.le_trans hn (Nat.le_trans HL1.out.size R5.out.size)))
      have W5 : Hid (Wb (wr.alloc (.cells (ocs o.o.ser o.o.kind o.o.site (.slice pa o.o.ps.length pc) (.slice ra o.o.rs.length rc)) 39)) W.heap.size wb R m vw vp vx (pk17 g k) L) := R1.out.below b5
      have K5 : Hid (Wyk n2 R (wr.alloc (.cells (ocs o.o.ser o.o.kind o.o.site (.slice pa o.o.ps.length pc) (.slice ra o.o.rs.length rc)) 39)) vw m (wz17 g)) := R3.out.next (Kg.Touch.alloc [] _ _) (fun _ h => by simp at h)
      have B5 : Hid (Below W.heap.size W (wr.alloc (.cells (ocs o.o.ser o.o.kind o.o.site (.slice pa o.o.ps.length pc) (.slice ra o.o.rs.length rc)) 39))) := R5.out.trans (b5.mono R5.out.size)
      have N5 : Hid (n2 ≤ (wr.alloc (.cells (ocs o.o.ser o.o.kind o.o.site (.slice pa o.o.ps.length pc) (.slice ra o.o.rs.length rc)) 39)).heap.size) := Nat.le_trans R6.out b5.size
      rw [← hA5] at hx5
      change Code.wp _ _ _ _ (wr.alloc (.cells (ocs o.o.ser o.o.kind o.o.site (.slice pa o.o.ps.length pc) (.slice ra o.o.rs.length rc)) 39))
      rw [← hA5]
      clear c0 c1' c2 c3 c4 HLP R1 R3 R5 R6 b5 hA5
      generalize wr.alloc (.cells (ocs o.o.ser o.o.kind o.o.site (.slice pa o.o.ps.length pc) (.slice ra o.o.rs.length rc)) 39) = w5 at *
      have k1 : w5.cell? ⟨A5, 1, none⟩ = some (.int .i64 o.o.kind) := Kg.heap_cell hx5 1
      have k3 : w5.cell? ⟨A5, 3, none⟩ = some (.slice pa o.o.ps.length pc) := Kg.heap_cell hx5 3
      clear hx5
      by_cases hk3 : o.o.kind = 3
      · rw [hk3] at hfl k1
        have hl2 : 2 ≤ o.o.ps.length := hfl.1
        obtain ⟨z0, hz0⟩ : ∃ z, o.o.ps[0]? = some z := ⟨_, List.getElem?_eq_getElem (by omega)⟩
        obtain ⟨z1, hz1⟩ : ∃ z, o.o.ps[1]? = some z := ⟨_, List.getElem?_eq_getElem (by omega)⟩
        have i0 := ps_in HM.out HGo.out (List.mem_of_getElem? hz0)
        have i1 := ps_in HM.out HGo.out (List.mem_of_getElem? hz1)
        obtain ⟨a, rfl⟩ : ∃ a : Nat, z0 = (a : Int) := ⟨z0.toNat, by omega⟩
        obtain ⟨c, rfl⟩ : ∃ a : Nat, z1 = (a : Int) := ⟨z1.toNat, by omega⟩
        obtain ⟨pa', pc', ep, -, hpl⟩ := HLP5.out
        simp only [Value.slice.injEq, true_and] at ep
        obtain ⟨rfl, rfl⟩ := ep
        obtain ⟨q, off, rfl, -, d0⟩ := hpl 0 _ hz0
        obtain ⟨q', off', ep, -, d1⟩ := hpl 1 _ hz1
        simp only [Option.some.injEq, Addr.mk.injEq, and_true] at ep
        obtain ⟨rfl, rfl⟩ := ep
        rw [Nat.add_zero] at d0
        have hm9 := HMM.out
        have ho9 : g.obs.length = os.length := by rw [(HG.out w5 B5.out).eo, List.length_map]
        have HI : Hid (a < m ∧ c < m) := ⟨by omega, by omega⟩
        have HZ : Hid (o.o.kind = 3 ∧ o.o.ps[0]? = some (a : Int) ∧ o.o.ps[1]? = some (c : Int)) := ⟨hk3, hz0, hz1⟩
        have hl0 : (0 : Int) < (o.o.ps.length : Int) := by omega
        have hl1 : (1 : Int) < (o.o.ps.length : Int) := by omega
        clear hpl hz0 hz1 i0 i1 hk3 hfl hm9 ho9 HLP5
        by_cases ha : a = 0
        · have g4 : ((a : Int) != 0) = false := by rw [ha]; rfl
          have HP1 : Hid (pk17 g (k + 1) = pk17 g k) := by
            show _ = _
            rw [HPk.out, oe_no (.inr (.inl (by rw [HZ.out.2.1, ha]; rfl)))]
            simp
          clear ha HPk
          go_wp2
          go_roundw
          case rel => exact ⟨k + 1, vp, vx, L, by go_num, by omega, by show Wb _ _ _ _ _ _ _ _ _ _; rw [HP1.out]; exact W5.out, by show Wl _ _; rw [HP1.out]; exact R2.out, K5, R4, B5, N5⟩
          case measure => simp [intOf]; omega
        · have g4 : ((a : Int) != 0) = true := bne_iff_ne.2 (by omega)
          by_cases hc : c = 0
          · have g5 : ((c : Int) != 0) = false := by rw [hc]; rfl
            have HP1 : Hid (pk17 g (k + 1) = pk17 g k) := by
              show _ = _
              rw [HPk.out, oe_no (.inr (.inr (by rw [HZ.out.2.2, hc]; rfl)))]
              simp
            clear hc ha HPk
            go_wp2
            go_roundw
            case rel => exact ⟨k + 1, vp, vx, L, by go_num, by omega, by show Wb _ _ _ _ _ _ _ _ _ _; rw [HP1.out]; exact W5.out, by show Wl _ _; rw [HP1.out]; exact R2.out, K5, R4, B5, N5⟩
            case measure => simp [intOf]; omega
          · have g5 : ((c : Int) != 0) = true := bne_iff_ne.2 (by omega)
            have HP1 : Hid (pk17 g (k + 1) = pk17 g k ++ [(k + 1, a, c)]) := by
              show _ = _
              rw [HPk.out, (oe_iff (e := (k + 1, a, c)) (fun z hz => (ps_in HM.out HGo.out hz).1)).2 ⟨HZ.out.1, rfl, HZ.out.2.1, HZ.out.2.2, ha, hc⟩]
              rfl
            have hpl := pk_len g k
            have hq := add_any W.heap.size wb R m (by omega) vw vp vx (pk17 g k) L (k + 1, a, c) (by have := HMM.out; show k + 1 < m; omega) HI.out.1 (by omega) (fun n => by have := R2.out.n n; omega) w5.drew (W5.out.keep (Kg.Touch.drew [] w5) (fun _ _ => List.not_mem_nil))
            have hkk : (((k + 1 : Nat)) : Int) = (k : Int) + 1 := by omega
            dsimp only [epv] at hq
            rw [hkk] at hq
            clear hc ha HPk HZ hpl hkk
            go_upto_region 6 with fail
            refine Kg.quiet_tail 12 Kg.mixed (by kernel_rfl) ?_
            simp only [List.take_succ_cons, List.take_zero, List.drop_succ_cons, List.drop_zero]
            repeat (go_big_quiet_step (fail))
            refine wpQuiet_nil ?_
            go_wp2_with fail
            refine hq.mono ?_
            rintro r w6 ⟨rfl, vp6, vx6, f1, f2, f3⟩
            have hws : w5.drew.heap.size = w5.heap.size := rfl
            have f2' : Kg.Touch (wbF wb R m vp vx) w5 w6 := (Kg.Touch.drew _ w5).trans f2
            have W6 : Hid (Wb w6 W.heap.size wb R m vw vp6 vx6 (pk17 g (k + 1)) (lpt (lpt L (k + 1) (k + 1, a, c)) a (k + 1, a, c))) := by
              show Wb _ _ _ _ _ _ _ _ _ _
              rw [HP1.out]
              exact f1
            have L6 : Hid (Wl (pk17 g (k + 1)) (lpt (lpt L (k + 1) (k + 1, a, c)) a (k + 1, a, c))) := by
              show Wl _ _
              rw [HP1.out]
              exact R2.out.add (k + 1, a, c)
            have K6 : Hid (Wyk n2 R w6 vw m (wz17 g)) := K5.out.next f2' R4.out
            have B6 : Hid (Below W.heap.size W w6) := B5.out.trans (f2'.below B5.out.size (fun x hx => (W5.out.mem x hx).1))
            have N6 : Hid (n2 ≤ w6.heap.size) := Nat.le_trans N5.out f2'.size
            have F6 : Hid (∀ x, x ∈ wbF wb R m vp6 vx6 → x = R ∨ n2 ≤ x) := fun x hx => by
              rcases f3 x hx with h1 | h1
              · exact R4.out x h1
              · exact .inr (Nat.le_trans N5.out h1)
            clear hq f1 f2 f3 f2' hws HP1 W5 R2 K5 B5 N5 R4 k1 k3 d0 d1
            go_wp2
            go_roundw
            case rel => exact ⟨k + 1, vp6, vx6, _, by go_num, by omega, W6, L6, K6, F6, B6, N6⟩
            case measure => simp [intOf]; omega
      · have g3 : (o.o.kind == 3) = false := beq_eq_false_iff_ne.2 hk3
        have HP1 : Hid (pk17 g (k + 1) = pk17 g k) := by
          show _ = _
          rw [HPk.out, oe_no (.inl hk3)]
          simp
        clear hk3 HPk
        go_wp2
        go_roundw
        case rel => exact ⟨k + 1, vp, vx, L, by go_num, by omega, by show Wb _ _ _ _ _ _ _ _ _ _; rw [HP1.out]; exact W5.out, by show Wl _ _; rw [HP1.out]; exact R2.out, K5, R4, B5, N5⟩
        case measure => simp [intOf]; omega
    · have hkI : ¬ (k : Int) < (os.length : Int) := by omega
      have e9 : k = g.obs.length := by rw [(HG.out wr R5.out).eo, List.length_map]; omega
      have HE : Hid (Wb wr w.heap.size wb R m vw vp vx (pe17 g) L ∧ Wl (pe17 g) L ∧ Wys wr.heap.size wr vw m (wz17 g) ∧ Below w.heap.size w wr) := by
        have r1 := R1.out
        have r2 := R2.out
        rw [e9] at r1 r2
        refine ⟨r1.mono HL1.out.size, r2, Wys.mono (R3.out [] wr (Kg.Touch.refl _ _) (fun _ h => by simp at h)) R6.out, HL1.out.trans (R5.out.mono HL1.out.size)⟩
      clear e9 R1 R2 R3 R4 R5 R6
      go_wp2
      go_ret
      exact ⟨wb, rfl, R, vw, vp, vx, L, HE.out⟩
end Go.Proofs.YtkekaifiahjljaaGreatDoor
