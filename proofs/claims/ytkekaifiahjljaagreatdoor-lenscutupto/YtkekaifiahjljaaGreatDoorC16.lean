import Derived.Test.YtkekaifiahjljaaGreatDoorC15
import Derived.Test.YtkekaifiahjljaaGreatDoorC11
import Derived.Laws.CopyOwn
set_option linter.unusedVariables false
set_option maxHeartbeats 8000000
set_option maxRecDepth 20000
namespace Go.Proofs.YtkekaifiahjljaaGreatDoor
open Go.RowKit Go.Shelf Go.Proofs.YtkekaifiahjljaaGreatDoor.Lp
theorem step_append_own_at {P : Program} {ops : Array Oper} {o : Oper} {a : Act} {w : World} {K : Act → World → Prop} {Q : Exit → Act → World → Prop} {E : Prop}
    (hgd : o.guard = none) (s x : Operand) (t : TypeId) (ho : o.op = .call { callee := .builtin .append, args := #[s, x], argTypes := #[t, t] })
    (base : Nat) (e : TypeId) (i : TypeInfo) (z : Value) (size bytes : Nat) (ht : P.underlying t = some (.slice e)) (hi : P.info? e = some i) (hz : i.zero = some z)
    (hsize : i.size = size) (hby : i.bytes = bytes) (hzs : z.cells.size = size) (hsz : 0 < size)
    (v : Value) (n : Nat) (xs : List Value) (hs : a.eval s = v) (hown : w.ownsRow base e size v n xs)
    (ad : Addr) (m c : Nat) (news : List Value) (hx : a.eval x = .slice (some ad) m c) (hl : news.length = m * size) (hnews : ∀ j u, news[j]? = some u → w.cell? (ad.add j) = some u) (h1 : ∀ u ∈ news, u.oneCell' = true)
    (h63 : n + m ≤ maxLen) (hbytes : (n + m) * bytes ≤ 140737488355328) (hbase : base ≤ w.heap.size)
    (h : ∀ v' w', w'.ownsRow base e size v' (n + m) (xs ++ news) → w.grownBy w' v.ownBlock → (v'.ownBlock = v.ownBlock ∨ v'.ownBlock = some w.heap.size) → K (a.put o.dst v') w') :
    if Region.wanted o (yielded ops a.tmps) = true then Oper.wp P o a w K Q else E := by
  have hw : Region.wanted o (yielded ops a.tmps) = true := by simp [Region.wanted, hgd]
  rw [if_pos hw]
  obtain ⟨v', w', hr, h2, h3, h4, h5⟩ := run_append_own_at (P := P) w base t o.type e i z size bytes ht hi hz hsize hby hzs hsz v n xs hown ad m c news hl hnews h1 h63 hbytes hbase
  unfold Oper.wp
  simp [execOp, ho, resolve, invoke, builtin, hs, hx, hr, Result.andThen]
  exact h v' w' h2 h3 h5
theorem infoL17 : (Tryz.prog.info? 24).map (fun i => (i.zero, i.size, i.bytes)) = some (some (.slice none 0 0), 1, 24) := by kernel_rfl
def sl17 (a : Option Addr) (n cap f : Nat) : Value := .slice (if cap = f then a else a.map (·.add f)) (n - f) (cap - f)
theorem sl17_lrd {n0 : Nat} {w : World} {a : Option Addr} {n cap f : Nat} {l : List Int} (h : Lrd n0 w (.slice a n cap) .i64 l) (hf : f ≤ l.length) : Lrd n0 w (sl17 a n cap f) .i64 (l.drop f) := by
  obtain ⟨a', cap', e, hc, h3⟩ := h
  simp only [Value.slice.injEq] at e
  obtain ⟨rfl, rfl, rfl⟩ := e
  refine ⟨_, _, by unfold sl17; rw [List.length_drop], by rw [List.length_drop]; omega, fun j z hz => ?_⟩
  rw [List.getElem?_drop] at hz
  obtain ⟨q, off, rfl, h4, h5⟩ := h3 (f + j) z hz
  have := (List.getElem?_eq_some_iff.1 hz).1
  refine ⟨q, off + f, ?_, h4, by rw [Nat.add_assoc]; exact h5⟩
  rw [if_neg (by omega)]
  simp [Addr.add_lit]
theorem row_one (w : World) (v : Value) (t : Nat) : (w.alloc (.cells #[v] t)).ownsRow w.heap.size t 1 (.slice (some ⟨w.heap.size, 0, none⟩) 1 1) 1 [v] :=
  ⟨by simp, .inr ⟨w.heap.size, 1, #[v], rfl, Nat.le_refl _, heap_alloc_new w _, by omega, by simp [maxLen], by simp, by simp⟩⟩
def Wrd (n0 : Nat) (w : World) (g : Im.Gr) (vs : List Value) : Prop := ∀ (i : Nat) u, vs[i]? = some u → Lrd n0 w u .i64 (rw17 g i)
theorem waysOf_any (n0 : Nat) (w : World) (vo vs vh vr vq : Value) (os : List OL) (ts : List (Value × List (Value × List Int))) (g : Im.Gr) (hg : Grd n0 w vo vs vh vr vq os ts g) (hn : n0 ≤ w.heap.size) (hm : MB g) (hol : os.length ≤ 2000000) (hs : Sln ts) (hlen : (g.hs ++ g.qu).length + (slotsF g.slots).length ≤ 1000000000) :
    Calls Tryz.prog 27 #[.agg (gcs vo vs vh vr vq g.next)] w fun e w' => ∃ v rs, e = .returned v ∧ w'.ownsRow w.heap.size 24 1 v (os.length + 1) rs ∧ Wrd w'.heap.size w' g rs ∧ Below w.heap.size w w' := by
  obtain ⟨i0, hi0, hj0, hj1, hj2⟩ := info_p17 infoL17
  have HI : Hid (Tryz.prog.info? 24 = some i0 ∧ i0.zero = some (.slice none 0 0) ∧ i0.size = 1 ∧ i0.bytes = 24) := ⟨hi0, hj0, hj1, hj2⟩
  clear hi0 hj0 hj1 hj2
  have l1 : Below w.heap.size w (w.alloc (.cells (gcs vo vs vh vr vq g.next) 27)) := Below.alloc (Below.refl _ _) (Nat.le_refl _) _
  have hx := heap_alloc_new w (.cells (gcs vo vs vh vr vq g.next) 27 (0, 0))
  obtain ⟨oa, oc, eo, -⟩ := id hg.ob
  subst eo
  generalize hW : w.alloc (.cells (gcs (.slice oa os.length oc) vs vh vr vq g.next) 27) = W at *
  have y0 : W.cell? ⟨w.heap.size, 0, none⟩ = some (.slice oa os.length oc) := Kg.heap_cell hx 0
  have y1 : W.cell? ⟨w.heap.size, 1, none⟩ = some vs := Kg.heap_cell hx 1
  have y2 : W.cell? ⟨w.heap.size, 2, none⟩ = some vh := Kg.heap_cell hx 2
  have y3 : W.cell? ⟨w.heap.size, 3, none⟩ = some vr := Kg.heap_cell hx 3
  have y4 : W.cell? ⟨w.heap.size, 4, none⟩ = some vq := Kg.heap_cell hx 4
  have y5 : W.cell? ⟨w.heap.size, 5, none⟩ = some (.int .u64 (g.next : Int)) := Kg.heap_cell hx 5
  have q := rootsOf_any n0 W _ vs vh vr vq os ts g (hg.below (l1.mono hn)) (Nat.le_trans hn l1.size) hs hlen
  have HL1 : Hid (Below w.heap.size w W) := l1
  have HM : Hid (MB g) := hm
  have HG : Hid (∀ w', Below W.heap.size W w' → w'.cell? ⟨w.heap.size, 0, none⟩ = some (.slice oa os.length oc) ∧ Below w.heap.size w w' ∧ Grd n0 w' (.slice oa os.length oc) vs vh vr vq os ts g) := fun w' b' => ⟨(Kg.heap_cell ((b'.block _ (Kg.heap_lt hx)).trans hx) 0), l1.trans (b'.mono l1.size), hg.below ((l1.trans (b'.mono l1.size)).mono hn)⟩
  clear hg hx l1 hm hs hlen
  go_enter Tryz.func27, Tryz.ntmps27
  go_wp2_with fail
  refine q.mono ?_
  rintro e w1 ⟨v1, rfl, r1, b1⟩
  obtain ⟨a1, c1, rfl⟩ := own_sl17 r1
  clear q y0 y1 y2 y3 y4 y5
  have B1 : Hid (Below W.heap.size W w1) := b1
  have R1 : Hid (Lrd w1.heap.size w1 (.slice a1 (rw17 g 0).length c1) .i64 (rw17 g 0)) := Il.lrd r1
  clear b1 r1
  go_upto_region 2 with fail
  have R2 := row_one w1 (.slice a1 (rw17 g 0).length c1) 24
  have b2 : Below w1.heap.size w1 (w1.alloc (.cells #[.slice a1 (rw17 g 0).length c1] 24)) := Below.alloc (Below.refl _ _) (Nat.le_refl _) _
  have W2 : Wrd w1.heap.size (w1.alloc (.cells #[.slice a1 (rw17 g 0).length c1] 24)) g [.slice a1 (rw17 g 0).length c1] := fun i u hu => by
    cases i with
    | zero => cases hu; exact R1.out.below b2
    | succ i => simp at hu
  have HB2 : Hid (Below w1.heap.size w1 (w1.alloc (.cells #[.slice a1 (rw17 g 0).length c1] 24))) := b2
  have HRW2 : Hid (∃ rs0, (w1.alloc (.cells #[.slice a1 (rw17 g 0).length c1] 24)).ownsRow w1.heap.size 24 1 (.slice (some ⟨w1.heap.size, 0, none⟩) 1 1) 1 rs0 ∧ Wrd w1.heap.size (w1.alloc (.cells #[.slice a1 (rw17 g 0).length c1] 24)) g rs0) := ⟨_, R2, W2⟩
  have y0 := (HG.out _ (B1.out.trans (b2.mono B1.out.size))).1
  clear R2 b2 W2 R1
  generalize w1.alloc (.cells #[.slice a1 (rw17 g 0).length c1] 24) = w2 at *
  obtain ⟨rs0, R2, W2⟩ := HRW2.out
  have HR2 : Hid (w2.ownsRow w1.heap.size 24 1 (.slice (some ⟨w1.heap.size, 0, none⟩) 1 1) 1 rs0) := R2
  have HW2 : Hid (Wrd w1.heap.size w2 g rs0) := W2
  clear R2 W2 HRW2
  go_wp2
  go_loopw [3, 12] (fun v i wr => ∃ (k : Nat) (rs : List Value), k ≤ os.length ∧ i = .int .i64 (k : Nat) ∧ Hid (wr.ownsRow w1.heap.size 24 1 v (k + 1) rs) ∧ Hid (Wrd w1.heap.size wr g rs) ∧ Hid (Below w1.heap.size w1 wr)) (fun _ i _ => os.length - (intOf i).toNat)
  case atStart => exact ⟨0, rs0, Nat.zero_le _, rfl, HR2, HW2, HB2⟩
  case round =>
    obtain ⟨k, rs, hk, rfl, R3, W3, B3⟩ := hrel
    have BW : Hid (Below W.heap.size W wr) := B1.out.trans (B3.out.mono B1.out.size)
    by_cases hkl : k < os.length
    · have hkI : (k : Int) < (os.length : Int) := by omega
      have hz : os[k]? = some (os[k]'hkl) := List.getElem?_eq_getElem hkl
      generalize os[k]'hkl = o at hz
      obtain ⟨-, -, gr⟩ := HG.out wr BW.out
      have hgo : g.obs[k]? = some o.o := by rw [gr.eo, List.getElem?_map, hz]; rfl
      have hfl := fst_le HM.out (List.mem_of_getElem? hgo)
      have HRW : Hid (rw17 g (k + 1) = o.o.ps.drop (fst17 o.o.kind)) := by show _ = _; simp only [rw17, hgo]
      obtain ⟨oa', oc', eo, hob⟩ := gr.ob
      simp only [Value.slice.injEq] at eo
      obtain ⟨rfl, -, rfl⟩ := eo
      obtain ⟨lp, lr, qo, off, rfl, hqo, hco⟩ := hob k o hz
      have c0 := (hco 0 (by omega)).trans (show _ = some (Value.int .u64 (o.o.ser : Int)) from rfl)
      have c1' := (hco 1 (by omega)).trans (show _ = some (Value.int .i64 o.o.kind) from rfl)
      have c2 := (hco 2 (by omega)).trans (show _ = some (Value.int .i64 o.o.site) from rfl)
      have c3 := (hco 3 (by omega)).trans (show _ = some o.vp from rfl)
      have c4 := (hco 4 (by omega)).trans (show _ = some o.vr from rfl)
      rw [Nat.add_zero] at c0
      have HLP : Hid (Lrd n0 wr o.vp .i64 o.o.ps) := lp
      obtain ⟨pa, pc, ep, hpc, -⟩ := lp
      obtain ⟨ra, rc, er, -, -⟩ := lr
      rw [ep] at c3 HLP
      rw [er] at c4
      clear hob hco hz gr hgo ep er
      go_upto_region 5 with fail
      obtain ⟨A, hA⟩ : ∃ A, A = wr.heap.size := ⟨_, rfl⟩
      obtain ⟨f, hf⟩ : ∃ f, f = fst17 o.o.kind := ⟨_, rfl⟩
      obtain ⟨n, hn9⟩ : ∃ n, n = o.o.ps.length := ⟨_, rfl⟩
      have HFK : Hid (f = fst17 o.o.kind) := hf
      have HNK : Hid (n = o.o.ps.length) := hn9
      have hfn : f ≤ n ∧ n ≤ 4095 := by rw [hf, hn9]; exact hfl
      rw [← hn9] at hpc c3 HLP
      rw [← hf] at HRW
      obtain ⟨a3, d3, rfl⟩ := own_sl17 R3.out
      have hx5 := heap_alloc_new wr (.cells (ocs o.o.ser o.o.kind o.o.site (.slice pa n pc) (.slice ra o.o.rs.length rc)) 39 (0, 0))
      have b5 : Below A wr (wr.alloc (.cells (ocs o.o.ser o.o.kind o.o.site (.slice pa n pc) (.slice ra o.o.rs.length rc)) 39)) := by rw [hA]; exact Below.alloc (Below.refl _ _) (Nat.le_refl _) _
      have r5 : (wr.alloc (.cells (ocs o.o.ser o.o.kind o.o.site (.slice pa n pc) (.slice ra o.o.rs.length rc)) 39)).ownsRow w1.heap.size 24 1 (.slice a3 (k + 1) d3) (k + 1) rs := R3.out.alloc _
      rw [← hn9, ← hA]
      rw [← hA] at hx5
      change Code.wp _ _ _ _ (wr.alloc (.cells (ocs o.o.ser o.o.kind o.o.site (.slice pa n pc) (.slice ra o.o.rs.length rc)) 39))
      have HA5 : Hid (A < (wr.alloc (.cells (ocs o.o.ser o.o.kind o.o.site (.slice pa n pc) (.slice ra o.o.rs.length rc)) 39)).heap.size) := by show _ < _; rw [hA]; simp
      have HAw : Hid (A = wr.heap.size) := hA
      clear hf hn9 hfl hA
      generalize wr.alloc (.cells (ocs o.o.ser o.o.kind o.o.site (.slice pa n pc) (.slice ra o.o.rs.length rc)) 39) = w5 at *
      have k1 : w5.cell? ⟨A, 1, none⟩ = some (.int .i64 o.o.kind) := Kg.heap_cell hx5 1
      have k3 : w5.cell? ⟨A, 3, none⟩ = some (.slice pa n pc) := Kg.heap_cell hx5 3
      have HR5 : Hid (w5.ownsRow w1.heap.size 24 1 (.slice a3 (k + 1) d3) (k + 1) rs) := r5
      have HB5 : Hid (Below A wr w5) := b5
      have HO5 : Hid (∀ q, (Value.slice a3 (k + 1) d3).ownBlock = some q → q < A) := fun q hq => by rw [HAw.out]; exact (R3.out.lt q hq).2
      have hfnI : (f : Int) ≤ (n : Int) := by omega
      clear hx5 b5 r5 c0 c1' c2 c3 c4
      refine wp_region_held_drew (S := fun w' => w'.cell? ⟨A, 1, none⟩ = some (.int .i64 o.o.kind) ∧ w'.cell? ⟨A, 3, none⟩ = some (.slice pa n pc)) Kg.mixed (And.intro k1 k3) (fun hHeld => ?_)
      refine wpAnyH_take (i := 0) (v := (.slice a3 (k + 1) d3)) rfl (by kernel_rfl) (by kernel_rfl) (by kernel_rfl) (fun _ _ _ h => h) (Or.inl ⟨by rfl, fun wx hSw => ?_⟩) (by assumption) ?_
      · obtain ⟨s1, s3⟩ := hSw
        go_simp
      change wpAnyH _ _ _ _ _ _ _ (Act.put _ (some 16) (.slice a3 (k + 1) d3)) _
      simp only [Act.put, List.setIfInBounds_toArray, List.set_cons_zero, List.set_cons_succ]
      refine wpAnyH_take (i := 1) (v := (.pointer (some ⟨A, 3, none⟩))) rfl (by kernel_rfl) (by kernel_rfl) (by kernel_rfl) (fun _ _ _ h => h) (Or.inl ⟨by rfl, fun wx hSw => ?_⟩) (by assumption) ?_
      · obtain ⟨s1, s3⟩ := hSw
        go_simp
      change wpAnyH _ _ _ _ _ _ _ (Act.put _ (some 17) (.pointer (some ⟨A, 3, none⟩))) _
      simp only [Act.put, List.setIfInBounds_toArray, List.set_cons_zero, List.set_cons_succ]
      refine wpAnyH_take (i := 2) (v := (.slice pa n pc)) rfl (by kernel_rfl) (by kernel_rfl) (by kernel_rfl) (fun _ _ _ h => h) (Or.inl ⟨by rfl, fun wx hSw => ?_⟩) (by assumption) ?_
      · obtain ⟨s1, s3⟩ := hSw
        go_simp
      change wpAnyH _ _ _ _ _ _ _ (Act.put _ (some 18) (.slice pa n pc)) _
      simp only [Act.put, List.setIfInBounds_toArray, List.set_cons_zero, List.set_cons_succ]
      refine wpAnyH_take (i := 3) (v := (.pointer (some ⟨A, 1, none⟩))) rfl (by kernel_rfl) (by kernel_rfl) (by kernel_rfl) (fun _ _ _ h => h) (Or.inl ⟨by rfl, fun wx hSw => ?_⟩) (by assumption) ?_
      · obtain ⟨s1, s3⟩ := hSw
        go_simp
      change wpAnyH _ _ _ _ _ _ _ (Act.put _ (some 19) (.pointer (some ⟨A, 1, none⟩))) _
      simp only [Act.put, List.setIfInBounds_toArray, List.set_cons_zero, List.set_cons_succ]
      refine wpAnyH_take (i := 4) (v := (.int .i64 o.o.kind)) rfl (by kernel_rfl) (by kernel_rfl) (by kernel_rfl) (fun _ _ _ h => h) (Or.inl ⟨by rfl, fun wx hSw => ?_⟩) (by assumption) ?_
      · obtain ⟨s1, s3⟩ := hSw
        go_simp
      change wpAnyH _ _ _ _ _ _ _ (Act.put _ (some 20) (.int .i64 o.o.kind)) _
      simp only [Act.put, List.setIfInBounds_toArray, List.set_cons_zero, List.set_cons_succ]
      refine wpAnyH_ready (rs := [5]) (by kernel_rfl) (by simp) (AllReadyH.cons rfl (fun K hK => ?_) AllReadyH.nil)
      go_simp
      refine (firstStrong_any _ _).mono ?_
      rintro e w6 ⟨rfl, rfl⟩
      rw [← HFK.out]
      refine hK.out _ _ (And.intro k1 k3) (fun hHeld2 => ?_)
      clear hK K hHeld
      refine wpAnyH_take (i := 6) (v := (sl17 pa n pc f)) rfl (by kernel_rfl) (by kernel_rfl) (by kernel_rfl) (fun _ _ _ h => h) (Or.inl ⟨by rfl, fun wx hSw => ?_⟩) (by assumption) ?_
      · obtain ⟨s1, s3⟩ := hSw
        go_simp
        rfl
      change wpAnyH _ _ _ _ _ _ _ (Act.put _ (some 22) (sl17 pa n pc f)) _
      simp only [Act.put, List.setIfInBounds_toArray, List.set_cons_zero, List.set_cons_succ]
      have HLd : Hid (Lrd n0 wr (sl17 pa n pc f) .i64 (rw17 g (k + 1))) := by
        show Lrd _ _ _ _ _
        rw [HRW.out]
        exact sl17_lrd HLP.out (by rw [← HNK.out]; exact hfn.1)
      generalize sl17 pa n pc f = u at *
      obtain ⟨ua, ul, uc, rfl⟩ : ∃ ua ul uc, u = .slice ua ul uc := by
        obtain ⟨ua, uc, e, -⟩ := HLd.out
        exact ⟨ua, _, uc, e⟩
      refine wpAnyH_ready (rs := [7]) (by kernel_rfl) (by simp) (AllReadyH.cons rfl (fun K hK => ?_) AllReadyH.nil)
      go_simp
      have b6 : Below w5.heap.size w5 ((w5.alloc (.cells #[.slice ua ul uc] 24)).drew) := (Below.alloc (Below.refl _ _) (Nat.le_refl _) _).drew
      have c6 : ∀ (j : Nat) u, [Value.slice ua ul uc][j]? = some u → ((w5.alloc (.cells #[.slice ua ul uc] 24)).drew).cell? ((⟨w5.heap.size, 0, none⟩ : Addr).add j) = some u := cell_one17 w5 (.slice ua ul uc) 24
      have r6 : ((w5.alloc (.cells #[.slice ua ul uc] 24)).drew).ownsRow w1.heap.size 24 1 (.slice a3 (k + 1) d3) (k + 1) rs := HR5.out.alloc _
      have s1 := (b6.cell (p := ⟨A, 1, none⟩) HA5.out).trans k1
      have s3 := (b6.cell (p := ⟨A, 3, none⟩) HA5.out).trans k3
      generalize (w5.alloc (.cells #[.slice ua ul uc] 24)).drew = w6 at *
      have HB6 : Hid (Below A wr w6) := HB5.out.trans (b6.mono (Nat.le_of_lt HA5.out))
      have HA6 : Hid (w1.heap.size ≤ w6.heap.size ∧ A < w6.heap.size ∧ w1.heap.size ≤ A) := ⟨Nat.le_trans B3.out.size (Nat.le_trans HB5.out.size b6.size), Nat.lt_of_lt_of_le HA5.out b6.size, by rw [HAw.out]; exact B3.out.size⟩
      refine hK.out _ _ (And.intro s1 s3) (fun hHeld3 => ?_)
      clear hK K hHeld2 k1 k3
      refine wpAnyH_ready (rs := [8]) (by kernel_rfl) (by simp) (AllReadyH.cons rfl (fun K hK => ?_) AllReadyH.nil)
      refine step_append_own_at rfl (.tmp 16) (.tmp 23) 48 rfl w1.heap.size 24 i0 (.slice none 0 0) 1 24 Tryz.underlying48 HI.out.1 HI.out.2.1 HI.out.2.2.1 HI.out.2.2.2 rfl (by decide) (.slice a3 (k + 1) d3) (k + 1) rs rfl r6 ⟨w5.heap.size, 0, none⟩ 1 1 [.slice ua ul uc] rfl rfl c6 (by simp [Value.oneCell']) (by simp only [maxLen]; omega) (by omega) HA6.out.1 ?_
      intro v7 w7 h7 g7 _
      have g7 : w6.grownBy w7 (Value.slice a3 (k + 1) d3).ownBlock := g7
      have hne : some A ≠ (Value.slice a3 (k + 1) d3).ownBlock := fun e => by have := HO5.out A e.symm; omega
      have t1 := g7.cell (a := ⟨A, 1, none⟩) s1 hne
      have t3 := g7.cell (a := ⟨A, 3, none⟩) s3 hne
      have tt : Kg.Touch (Value.slice a3 (k + 1) d3).ownBlock.toList w6 w7 := Kg.Touch.grown g7 (fun x hx => by rw [Option.mem_toList]; exact hx)
      have b7 : Below w1.heap.size w6 w7 := tt.below HA6.out.1 (fun x hx => by rw [Option.mem_toList] at hx; exact (r6.lt x hx).1)
      have b37 : Below w1.heap.size wr w7 := (HB6.out.mono HA6.out.2.2).trans b7
      have HB7 : Hid (Below w1.heap.size w1 w7) := B3.out.trans b37
      have HR7 : Hid (w7.ownsRow w1.heap.size 24 1 v7 (k + 1 + 1) (rs ++ [.slice ua ul uc])) := h7
      have hrl : rs.length = k + 1 := by have := r6.1; omega
      have HW7 : Hid (Wrd w1.heap.size w7 g (rs ++ [.slice ua ul uc])) := fun i u hu => by
        rcases Nat.lt_or_ge i rs.length with h | h
        · rw [List.getElem?_append_left h] at hu
          exact (W3.out i u hu).below b37
        · rw [List.getElem?_append_right h] at hu
          have e : i = k + 1 := by
            have := (List.getElem?_eq_some_iff.1 hu).1
            simp at this
            omega
          rw [e, hrl, Nat.sub_self] at hu
          cases hu
          rw [e]
          exact (HLd.out.mono (Nat.le_trans hn (Nat.le_trans HL1.out.size B1.out.size))).below b37
      clear h7 g7 tt b7 b37 hrl r6 s1 s3 c6 b6
      refine hK.out _ _ (And.intro t1 t3) (fun hHeld4 => ?_)
      clear hK K hHeld3
      refine wpAnyH_ready (rs := [9]) (by kernel_rfl) (by simp) (AllReadyH.cons rfl (fun K hK => ?_) AllReadyH.nil)
      go_simp
      refine hK.out _ _ (And.intro t1 t3) (fun hHeld5 => ?_)
      clear hK K hHeld4
      refine wpAnyH_done (by kernel_rfl) ?_ _
      obtain ⟨a7, d7, rfl⟩ := own_sl17 HR7.out
      clear t1 t3 hHeld5
      go_wp2
      go_roundw
      case rel => exact ⟨k + 1, rs ++ [.slice ua ul uc], by omega, by go_num, HR7, HW7, HB7⟩
      case measure => simp [intOf]; omega
    · have hkI : ¬ (k : Int) < (os.length : Int) := by omega
      obtain rfl : k = os.length := by omega
      obtain ⟨a3, c3, rfl⟩ := own_sl17 R3.out
      have HBo : Hid (Below w.heap.size w wr) := HL1.out.trans (BW.out.mono HL1.out.size)
      have HWo : Hid (Wrd wr.heap.size wr g rs) := fun i u hu => (W3.out i u hu).mono B3.out.size
      go_wp2
      go_ret
      exact ⟨_, rfl, rs, Kg.row_base R3.out (Nat.le_trans HL1.out.size B1.out.size), HWo.out, HBo.out⟩
end Go.Proofs.YtkekaifiahjljaaGreatDoor
namespace Go.Proofs.YtkekaifiahjljaaGreatDoor
open Go.RowKit Go.Shelf
theorem mul64_one (y : Nat) (hy : y < 4294967296) (w : World) : Calls Tryz.prog 187 #[.int .u64 1, .int .u64 (y : Int)] w fun e w' => e = .returned (.tuple #[.int .u64 0, .int .u64 (y : Int)]) ∧ w' = w := by
  have e1 : bits .and .u64 1 4294967295 = 1 := (mask 32 4294967295 (by decide) (by decide) (m := 1) ⟨by omega, by omega⟩).trans (by decide)
  have e2 : bits .and .u64 (y : Int) 4294967295 = (y : Int) := (mask 32 4294967295 (by decide) (by decide) (m := (y : Int)) ⟨by omega, by omega⟩).trans (by omega)
  have e3 : bits .and .u64 0 4294967295 = 0 := (mask 32 4294967295 (by decide) (by decide) (m := 0) ⟨by omega, by omega⟩).trans (by decide)
  have e4 : (y : Int) / 4294967296 = 0 := by omega
  have e5 : IntKind.u64.wrap (y : Int) = (y : Int) := by rw [IntKind.wrap_u64]; omega
  go_enter Tryz.func187, Tryz.ntmps187
  go_wp2
  go_ret2
  exact ⟨rfl, rfl⟩
theorem mul_one (y : Nat) (hy : y < 4294967296) (w : World) : Calls Tryz.prog 157 #[.int .u64 1, .int .u64 (y : Int)] w fun e w' => e = .returned (.tuple #[.int .u64 0, .int .u64 (y : Int)]) ∧ w' = w := by
  have q := mul64_one y hy w
  go_enter Tryz.func157, Tryz.ntmps157
  go_wp2_with fail
  refine q.mono ?_
  rintro e w' ⟨rfl, rfl⟩
  go_wp2
  go_ret2
  exact ⟨rfl, rfl⟩
def rcl (z : Int) (m n : Nat) : List Value := List.replicate n (.int .i64 z) ++ List.replicate (m - n) (.int .i64 0)
theorem rcl_len {z : Int} {m n : Nat} (h : n ≤ m) : (rcl z m n).length = m := by unfold rcl; simp; omega
theorem rcl_zero (z : Int) (m : Nat) : rcl z m 0 = List.replicate m (.int .i64 0) := by unfold rcl; simp
theorem rcl_splice {z : Int} {m n c : Nat} (h : n + c ≤ m) : splice (rcl z m n) n (List.replicate c (.int .i64 z)) = rcl z m (n + c) := by
  unfold splice rcl
  rw [List.take_left' (by simp), List.length_replicate, List.drop_append]
  simp only [List.length_replicate, List.drop_replicate]
  rw [show n - (n + c) = 0 by omega, List.replicate_zero, List.nil_append, show m - n - (n + c - n) = m - (n + c) by omega, ← List.append_assoc, List.replicate_append_replicate]
theorem made_rcl (z : Int) (m : Nat) : madeCells #[.int .i64 0] m = (rcl z m 0).toArray := by
  rw [rcl_zero]
  apply Array.ext
  · simp [madeCells]
  · intro i h1 h2
    simp [madeCells, Nat.mod_one]
theorem repeat_any (b m : Nat) (z : Int) (w : World) (hc : w.cell? ⟨b, 0, none⟩ = some (.int .i64 z)) (hb : b < w.heap.size) (h1 : 1 ≤ m) (h2 : m ≤ 2000000) :
    Calls Tryz.prog 95 #[.slice (some ⟨b, 0, none⟩) 1 1, .int .i64 (m : Int)] w fun e w' => e = .returned (.slice (some ⟨w.heap.size, 0, none⟩) m m) ∧ w'.heap[w.heap.size]? = some (.cells (rcl z m m).toArray 3 (0, 0)) ∧ Below w.heap.size w w' := by
  obtain ⟨i0, hi0, hj0, hj1, hj2⟩ := info_p17 infoI17
  have hi64 : (Tryz.prog.info? 3).map (·.size) = some 1 := by rw [hi0]; simp [hj1]
  have HI : Hid ((Tryz.prog.info? 3).map (·.size) = some 1) := hi64
  clear hi0 hj0 hj1 hj2 hi64
  have q := mul_one m (by omega) w
  have e5 : IntKind.u64.wrap (m : Int) = (m : Int) := by rw [IntKind.wrap_u64]; omega
  have hmk := make_ints17 m (by omega)
  have g1 : decide ((m : Int) < 0) = false := decide_eq_false (by omega)
  have g2 : decide ((9223372036854775807 : Int) < (m : Int)) = false := decide_eq_false (by omega)
  go_enter Tryz.func95, Tryz.ntmps95
  go_wp2_with fail
  refine q.mono ?_
  rintro e w' ⟨rfl, rfl⟩
  clear q
  go_upto_region 7 with fail
  obtain ⟨g, hg⟩ : ∃ g, g = w'.heap.size := ⟨_, rfl⟩
  have hx : (w'.alloc (.cells (madeCells #[.int .i64 0] m) 3)).heap[g]? = some (.cells (rcl z m 0).toArray 3 (0, 0)) := by rw [hg, ← made_rcl]; exact heap_alloc_new w' _
  have b1 : Below g w' (w'.alloc (.cells (madeCells #[.int .i64 0] m) 3)) := by rw [hg]; exact Below.alloc (Below.refl _ _) (Nat.le_refl _) _
  have hc1 := (b1.cell (p := ⟨b, 0, none⟩) (by rw [hg]; exact hb)).trans hc
  rw [← hg]
  have HG : Hid (g = w'.heap.size) := hg
  clear hg hmk g1 g2 e5 hc
  generalize w'.alloc (.cells (madeCells #[.int .i64 0] m) 3) = w1 at *
  obtain ⟨C1, hC1⟩ : ∃ x, x = [Value.int .i64 z] := ⟨_, rfl⟩
  have HC1 : Hid (C1 = List.replicate 1 (Value.int .i64 z)) := hC1
  have HC3 : Hid (∀ j v, C1[j]? = some v → w1.cell? ((⟨b, 0, none⟩ : Addr).add j) = some v) := fun j v hj => by
    rw [hC1] at hj
    cases j with
    | zero => cases hj; rw [Addr.add_lit]; exact hc1
    | succ j => simp at hj
  have HC4 : Hid (∀ v, v ∈ C1 → v.oneCell' = true) := fun v hv => by rw [hC1] at hv; simp at hv; rw [hv]; rfl
  have HC5 : Hid (C1.length = Nat.min 1 m ∧ 0 + C1.length ≤ (rcl z m 0).length) := by
    rw [rcl_len (Nat.zero_le _), hC1]
    refine ⟨?_, by simp; omega⟩
    show 1 = min 1 m
    omega
  go_wp2_with (refine wpList_copy_splice rfl (.tmp 31) (.tmp 32) 24 24 rfl 3 Tryz.underlying24 HI.out _ _ _ _ _ _ rfl rfl g 0 (rcl z m 0) 3 hx C1 HC5.out.1 (fun _ => ⟨rfl, _, rfl, HC3.out⟩) HC5.out.2 HC4.out g w' b1 (Nat.le_refl _) ?_; intro w2 hg2 hb2)
  clear HC3 HC4 HC5
  have e1 : C1.length = 1 := by rw [hC1]; rfl
  have HG2 : Hid (w2.heap[g]? = some (.cells (rcl z m 1).toArray 3 (0, 0))) := by
    have h9 := hg2.out
    rw [HC1.out, rcl_splice (by omega)] at h9
    exact h9
  have HB2 : Hid (Below g w' w2) := hb2
  clear hg2 hb2 hx b1 hc1 hC1 HC1 e1 C1
  go_loopw [8] (fun v wr => ∃ n : Nat, 1 ≤ n ∧ n ≤ m ∧ v = .int .i64 (n : Nat) ∧ Hid (wr.heap[g]? = some (.cells (rcl z m n).toArray 3 (0, 0))) ∧ Hid (Below g w' wr)) (fun v _ => m - (intOf v).toNat)
  case atStart => exact ⟨1, Nat.le_refl _, h1, rfl, HG2, HB2⟩
  case round =>
    obtain ⟨n, hn1, hn2, rfl, HR, HB⟩ := hrel
    by_cases hlt : n < m
    · have hltI : (n : Int) < (m : Int) := by omega
      have hne : ¬ m = n := by omega
      obtain ⟨c, hc⟩ : ∃ c, c = min n (m - n) := ⟨_, rfl⟩
      have hc1 : 1 ≤ c ∧ n + c ≤ m := by omega
      obtain ⟨C1, hC1⟩ : ∃ x, x = List.replicate c (Value.int .i64 z) := ⟨_, rfl⟩
      have HC1 : Hid (C1 = List.replicate c (Value.int .i64 z)) := hC1
      have HCl : Hid (C1.length = c) := by show _ = _; rw [hC1, List.length_replicate]
      have HC2 : Hid (∀ j v, C1[j]? = some v → j < n ∧ v = .int .i64 z) := fun j v hj => by
        rw [hC1, List.getElem?_replicate] at hj
        split at hj
        · cases hj; exact ⟨by omega, rfl⟩
        · cases hj
      have HCm : Hid (c = Nat.min n (m - n)) := hc
      clear hC1 hc
      go_upto_region 9 with fail
      have HF1 : Hid (wr.drew.heap[g]? = some (.cells (rcl z m n).toArray 3 (0, 0))) := HR
      have HF3 : Hid (∀ j v, C1[j]? = some v → wr.drew.cell? ((⟨g, 0, none⟩ : Addr).add j) = some v) := fun j v hj => by
        obtain ⟨h8, rfl⟩ := HC2.out j v hj
        rw [Addr.add_lit, Kg.heap_cell HF1.out]
        unfold rcl
        rw [List.getElem?_toArray, Nat.zero_add, List.getElem?_append_left (by simp; omega), List.getElem?_replicate, if_pos h8]
      have HF4 : Hid (∀ v, v ∈ C1 → v.oneCell' = true) := fun v hv => by
        obtain ⟨j, hj⟩ := List.getElem?_of_mem hv
        rw [(HC2.out j v hj).2]; rfl
      have HF5 : Hid (C1.length = Nat.min n (m - n) ∧ n + C1.length ≤ (rcl z m n).length) := ⟨by rw [HCl.out, HCm.out], by rw [rcl_len hn2, HCl.out]; omega⟩
      have HF6 : Hid (Below g w' wr.drew) := HB.out.drew
      have hcI : (n : Int) + (c : Int) ≤ (m : Int) := by omega
      refine wp_region_any Kg.mixed ?_
      change wpAny _ _ _ _ _ _ _ (World.drew _)
      refine wpAny_take (i := 0) (v := .int .i64 (n : Int)) rfl (by kernel_rfl) (by kernel_rfl) (by kernel_rfl) (fun _ _ _ h => h) (Or.inl ⟨by rfl, fun w => by go_simp⟩) ?_
      change wpAny _ _ _ _ _ _ (Act.put _ (some 38) (.int .i64 (n : Int))) _
      simp only [Act.put, List.setIfInBounds_toArray, List.set_cons_zero, List.set_cons_succ]
      refine wpAny_take (i := 1) (v := .slice (some ⟨g, 0, none⟩) m m) rfl (by kernel_rfl) (by kernel_rfl) (by kernel_rfl) (fun _ _ _ h => h) (Or.inl ⟨by rfl, fun w => by go_simp⟩) ?_
      change wpAny _ _ _ _ _ _ (Act.put _ (some 39) (.slice (some ⟨g, 0, none⟩) m m)) _
      simp only [Act.put, List.setIfInBounds_toArray, List.set_cons_zero, List.set_cons_succ]
      refine wpAny_take (i := 2) (v := .int .i64 (n : Int)) rfl (by kernel_rfl) (by kernel_rfl) (by kernel_rfl) (fun _ _ _ h => h) (Or.inl ⟨by rfl, fun w => by go_simp⟩) ?_
      change wpAny _ _ _ _ _ _ (Act.put _ (some 40) (.int .i64 (n : Int))) _
      simp only [Act.put, List.setIfInBounds_toArray, List.set_cons_zero, List.set_cons_succ]
      refine wpAny_take (i := 3) (v := .slice (some ⟨g, n, none⟩) (m - n) (m - n)) rfl (by kernel_rfl) (by kernel_rfl) (by kernel_rfl) (fun _ _ _ h => h) (Or.inl ⟨by rfl, fun w => by go_simp⟩) ?_
      change wpAny _ _ _ _ _ _ (Act.put _ (some 41) (.slice (some ⟨g, n, none⟩) (m - n) (m - n))) _
      simp only [Act.put, List.setIfInBounds_toArray, List.set_cons_zero, List.set_cons_succ]
      refine wpAny_take (i := 4) (v := .slice (some ⟨g, 0, none⟩) m m) rfl (by kernel_rfl) (by kernel_rfl) (by kernel_rfl) (fun _ _ _ h => h) (Or.inl ⟨by rfl, fun w => by go_simp⟩) ?_
      change wpAny _ _ _ _ _ _ (Act.put _ (some 42) (.slice (some ⟨g, 0, none⟩) m m)) _
      simp only [Act.put, List.setIfInBounds_toArray, List.set_cons_zero, List.set_cons_succ]
      refine wpAny_take (i := 5) (v := .int .i64 (n : Int)) rfl (by kernel_rfl) (by kernel_rfl) (by kernel_rfl) (fun _ _ _ h => h) (Or.inl ⟨by rfl, fun w => by go_simp⟩) ?_
      change wpAny _ _ _ _ _ _ (Act.put _ (some 43) (.int .i64 (n : Int))) _
      simp only [Act.put, List.setIfInBounds_toArray, List.set_cons_zero, List.set_cons_succ]
      refine wpAny_take (i := 6) (v := .slice (some ⟨g, 0, none⟩) n m) rfl (by kernel_rfl) (by kernel_rfl) (by kernel_rfl) (fun _ _ _ h => h) (Or.inl ⟨by rfl, fun w => by go_simp⟩) ?_
      change wpAny _ _ _ _ _ _ (Act.put _ (some 44) (.slice (some ⟨g, 0, none⟩) n m)) _
      simp only [Act.put, List.setIfInBounds_toArray, List.set_cons_zero, List.set_cons_succ]
      refine wpAny_ready (rs := [7]) (by kernel_rfl) (by simp) (AllReady.cons rfl (fun K hK => ?_) (AllReady.nil))
      refine step_copy_splice rfl (.tmp 41) (.tmp 44) 24 24 rfl 3 Tryz.underlying24 HI.out _ _ _ _ _ _ rfl rfl g n (rcl z m n) 3 HF1.out C1 HF5.out.1 (fun _ => ⟨rfl, _, rfl, HF3.out⟩) HF5.out.2 HF4.out g w' HF6.out (Nat.le_refl _) ?_
      intro w4 hg4 hb4
      have HG4 : Hid (w4.heap[g]? = some (.cells (rcl z m (n + c)).toArray 3 (0, 0))) := by
        have h9 := hg4.out
        rw [HC1.out, rcl_splice (by omega)] at h9
        exact h9
      have HB4 : Hid (Below g w' w4) := hb4
      rw [HCl.out]
      clear hg4 hb4
      refine hK _ _ ?_
      clear hK K
      refine wpAny_ready (rs := [8]) (by kernel_rfl) (by simp) (AllReady.cons rfl (fun K hK => ?_) (AllReady.nil))
      go_simp
      refine hK _ _ ?_
      clear hK K
      refine wpAny_ready (rs := [9]) (by kernel_rfl) (by simp) (AllReady.cons rfl (fun K hK => ?_) (AllReady.nil))
      go_simp
      refine hK _ _ ?_
      clear hK K
      refine wpAny_done (by kernel_rfl) ?_ _
      have hwr : IntKind.i64.wrap ((n : Int) + (c : Int)) = ((n + c : Nat) : Int) := by
        rw [IntKind.wrap_i64]
        omega
      rw [hwr]
      go_wp2
      go_roundw
      case rel => exact ⟨n + c, by omega, by omega, rfl, HG4, HB4⟩
      case measure => simp [intOf]; omega
    · obtain rfl : n = m := by omega
      have hltI : ¬ (n : Int) < (n : Int) := by omega
      go_wp2
      go_ret
      rw [← HG.out]
      exact ⟨rfl, HR.out, HB.out⟩
end Go.Proofs.YtkekaifiahjljaaGreatDoor
