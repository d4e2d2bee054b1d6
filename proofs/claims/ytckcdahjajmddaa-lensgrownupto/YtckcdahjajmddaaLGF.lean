/-
  Growth by site: two graphs are lent, in whatever order. (mkLGF.py prints this text.)
-/
import Derived.Test.YtckcdahjajmddaaLGD
import Derived.Test.YtckcdahjajmddaaLGE
import Derived.Deep.RegionHeld3
set_option linter.unusedVariables false
set_option maxRecDepth 20000
namespace Go.Proofs.Ytckcdahjajmddaa
open Go.RowKit Go.Shelf

abbrev room0 : Array Value := rmc (.slice none 0 0) (.slice none 0 0) (.slice none 0 0) (.slice none 0 0) (.slice none 0 0)

def rg2 : Array Oper := #[{ dst := some 12, op := Op.move (Operand.tmp 5), type := 28, pos := "exact.go:123", after := #[], guard := none }, { dst := some 13, op := Op.load 27 (Operand.tmp 2), type := 27, pos := "exact.go:123", after := #[], guard := none }, { dst := some 14, op := Op.call { callee := Callee.value (Operand.func 4), args := #[Operand.tmp 12, Operand.tmp 13], argTypes := #[ 28, 27 ] }, type := 27, pos := "exact.go:123", after := #[{ on := 0, ground := Ground.data }, { on := 1, ground := Ground.data }], guard := none }, { dst := some 15, op := Op.move (Operand.tmp 5), type := 28, pos := "exact.go:123", after := #[], guard := none }, { dst := some 16, op := Op.load 27 (Operand.tmp 3), type := 27, pos := "exact.go:123", after := #[], guard := none }, { dst := some 17, op := Op.call { callee := Callee.value (Operand.func 4), args := #[Operand.tmp 15, Operand.tmp 16], argTypes := #[ 28, 27 ] }, type := 27, pos := "exact.go:123", after := #[{ on := 3, ground := Ground.data }, { on := 4, ground := Ground.data }, { on := 2, ground := Ground.chain }], guard := none }, { dst := some 6, op := Op.alloc 27, type := 0, pos := "exact.go:123", after := #[], guard := none }, { dst := some 7, op := Op.alloc 27, type := 0, pos := "exact.go:123", after := #[], guard := none }, { dst := none, op := Op.store 27 (Operand.tmp 6) (Operand.tmp 14), type := 0, pos := "exact.go:123", after := #[{ on := 6, ground := Ground.data }, { on := 2, ground := Ground.data }, { on := 5, ground := Ground.chain }, { on := 0, ground := Ground.phase }, { on := 1, ground := Ground.phase }, { on := 2, ground := Ground.phase }, { on := 3, ground := Ground.textOnly Departure.lateStores }, { on := 4, ground := Ground.textOnly Departure.lateStores }, { on := 5, ground := Ground.textOnly Departure.lateStoresUnsure }, { on := 6, ground := Ground.phase }, { on := 7, ground := Ground.phase }], guard := none }, { dst := none, op := Op.store 27 (Operand.tmp 7) (Operand.tmp 17), type := 0, pos := "exact.go:123", after := #[{ on := 7, ground := Ground.data }, { on := 5, ground := Ground.data }, { on := 8, ground := Ground.chain }, { on := 0, ground := Ground.phase }, { on := 1, ground := Ground.phase }, { on := 2, ground := Ground.phase }, { on := 3, ground := Ground.phase }, { on := 4, ground := Ground.phase }, { on := 5, ground := Ground.phase }, { on := 6, ground := Ground.phase }, { on := 7, ground := Ground.phase }, { on := 8, ground := Ground.phase }], guard := none }]

abbrev fr17 (G G' : Array Value) (A n1 : Nat) (p6 p7 v14 v17 : Value) : Act := { tmps := #[.agg G, .agg G', .pointer (some ⟨A, 0, none⟩), .pointer (some ⟨A + 1, 0, none⟩), .bool false, .pointer (some ⟨n1, 0, none⟩), p6, p7, undef, undef, .agg #[.slice none 0 0, .slice none 0 0, .slice none 0 0, .slice none 0 0, .slice none 0 0, .slice none 0 0, .slice none 0 0, .slice none 0 0], .pointer (some ⟨n1, 0, none⟩), .pointer (some ⟨n1, 0, none⟩), .agg G, v14, .pointer (some ⟨n1, 0, none⟩), .agg G', v17, undef, undef, undef, undef, undef, undef, undef, undef, undef, undef, undef, undef, undef, undef, undef, undef, undef, undef, undef, undef, undef, undef, undef, undef, undef, undef, undef, undef, undef, undef, undef, undef, undef, undef, undef, undef, undef, undef, undef, undef, undef, undef, undef, undef, undef], defers := [] }

/-- What the region leaves. -/
def End17 (w1 : World) (n1 : Nat) (g g' : Im.Gr) (O6 O7 : Nat) (wq : World) : Prop := ∃ N S va vb, G17 w1 n1 g g' 10000000 2 [] (.agg va) (.agg vb) wq N S ∧ wq.heap[O6]? = some (.cells va 27 (0, 0)) ∧ wq.heap[O7]? = some (.cells vb 27 (0, 0)) ∧ n1 ≤ wq.heap.size ∧ N O6 = 0 ∧ N O7 = 0

set_option maxHeartbeats 8000000 in
theorem lend_any (w1 : World) (n1 A : Nat) (g g' : Im.Gr) (G G' : Array Value) (Q : Exit → Act → World → Prop)
    (hC1 : ∀ f6 f7 p6 p7 v14 v17 w, Q17 w1 n1 g g' 0 f6 f7 p6 p7 v14 v17 w → Calls Try.prog 4 #[.pointer (some ⟨n1, 0, none⟩), .agg G] w fun e w' => ∃ v, e = .returned v ∧ Q17 w1 n1 g g' 1 f6 f7 p6 p7 v v17 w')
    (hC2 : ∀ f6 f7 p6 p7 v14 v17 w, Q17 w1 n1 g g' 1 f6 f7 p6 p7 v14 v17 w → Calls Try.prog 4 #[.pointer (some ⟨n1, 0, none⟩), .agg G'] w fun e w' => ∃ v, e = .returned v ∧ Q17 w1 n1 g g' 2 f6 f7 p6 p7 v14 v w')
    (hE : ∀ O6 O7 v14 v17 wq, End17 w1 n1 g g' O6 O7 wq → Q .normal (fr17 G G' A n1 (.pointer (some ⟨O6, 0, none⟩)) (.pointer (some ⟨O7, 0, none⟩)) v14 v17) wq) (w : World) (h : Q17 w1 n1 g g' 0 false false undef undef undef undef w) :
    wpAnyH Try.prog .any rg2 Q (fun w' => Below n1 w1 w') 6 #[true, true, false, true, true, false, false, false, false, false] (fr17 G G' A n1 undef undef undef undef) w := by
  have HC1 : Hid (∀ f6 f7 p6 p7 v14 v17 w, Q17 w1 n1 g g' 0 f6 f7 p6 p7 v14 v17 w → Calls Try.prog 4 #[.pointer (some ⟨n1, 0, none⟩), .agg G] w fun e w' => ∃ v, e = .returned v ∧ Q17 w1 n1 g g' 1 f6 f7 p6 p7 v v17 w') := hC1
  have HC2 : Hid (∀ f6 f7 p6 p7 v14 v17 w, Q17 w1 n1 g g' 1 f6 f7 p6 p7 v14 v17 w → Calls Try.prog 4 #[.pointer (some ⟨n1, 0, none⟩), .agg G'] w fun e w' => ∃ v, e = .returned v ∧ Q17 w1 n1 g g' 2 f6 f7 p6 p7 v14 v w') := hC2
  have HE : Hid (∀ O6 O7 v14 v17 wq, End17 w1 n1 g g' O6 O7 wq → Q .normal (fr17 G G' A n1 (.pointer (some ⟨O6, 0, none⟩)) (.pointer (some ⟨O7, 0, none⟩)) v14 v17) wq) := hE
  have HI : Hid (Q17 w1 n1 g g' 0 false false undef undef undef undef w) := h
  clear hC1 hC2 hE h
  have T211 : Hid (∀ (listed : Array Bool) (p6 p7 v14 v17 : Value) (w : World), listed = #[true, true, true, true, true, true, true, true, false, false] → Q17 w1 n1 g g' 2 true true p6 p7 v14 v17 w → wpAnyH Try.prog .any rg2 Q (fun w' => Below n1 w1 w') 2 listed (fr17 G G' A n1 p6 p7 v14 v17) w) := by
    intro listed p6 p7 v14 v17 w hl hq
    subst hl
    obtain ⟨⟨N, S, X, h1, h2, h3, h4⟩, hn, hd⟩ := hq
    obtain ⟨O6, rfl, m6, e6⟩ := h3 rfl
    obtain ⟨O7, rfl, m7, e7⟩ := h4 rfl
    have hne : O6 ≠ O7 := fun e => hd rfl rfl (by rw [e])
    obtain ⟨vo1, vs1, vh1, vr1, vq1, os1, ts1, rfl, -⟩ := id (h1.a (by omega))
    obtain ⟨vo2, vs2, vh2, vr2, vq2, os2, ts2, rfl, -⟩ := id (h1.b (by omega))
    have ho1 : ∀ k, k ∈ [vo1, vs1, vh1, vr1, vq1] → k.oneCell' = true := by
      obtain ⟨vo, vs, vh, vr, vq, os, ts, e, ⟨b1, k1⟩, ⟨b2, k2⟩, ⟨b3, k3⟩, ⟨b4, k4⟩, ⟨b5, k5⟩, -, -⟩ := h1.a (by omega)
      simp only [Value.agg.injEq, gcs, Array.mk.injEq, List.cons.injEq, and_true] at e
      obtain ⟨rfl, rfl, rfl, rfl, rfl⟩ := e
      intro k hk
      simp only [List.mem_cons, List.not_mem_nil, or_false] at hk
      rcases hk with rfl | rfl | rfl | rfl | rfl
      · rw [k1.is]; rfl
      · rw [k2.is]; rfl
      · rw [k3.is]; rfl
      · rw [k4.is]; rfl
      · rw [k5.is]; rfl
    have ho2 : ∀ k, k ∈ [vo2, vs2, vh2, vr2, vq2] → k.oneCell' = true := by
      obtain ⟨vo, vs, vh, vr, vq, os, ts, e, ⟨b1, k1⟩, ⟨b2, k2⟩, ⟨b3, k3⟩, ⟨b4, k4⟩, ⟨b5, k5⟩, -, -⟩ := h1.b (by omega)
      simp only [Value.agg.injEq, gcs, Array.mk.injEq, List.cons.injEq, and_true] at e
      obtain ⟨rfl, rfl, rfl, rfl, rfl⟩ := e
      intro k hk
      simp only [List.mem_cons, List.not_mem_nil, or_false] at hk
      rcases hk with rfl | rfl | rfl | rfl | rfl
      · rw [k1.is]; rfl
      · rw [k2.is]; rfl
      · rw [k3.is]; rfl
      · rw [k4.is]; rfl
      · rw [k5.is]; rfl
    have t1 : Kg.Touch X w (w.setRow O6 (gcs vo1 vs1 vh1 vr1 vq1 g.next)) := ⟨rfl, rfl, rfl, by simp, fun k _ hk => setRow_other w _ k _ (fun e => hk (by rw [e]; exact m6))⟩
    have g1 := h1.write t1 hn h2
    have a6 : (w.setRow O6 (gcs vo1 vs1 vh1 vr1 vq1 g.next)).heap[O6]? = some (.cells (gcs vo1 vs1 vh1 vr1 vq1 g.next) 27 (0, 0)) := setRow_heap _ _ _ _ _ _ e6
    have a7 : (w.setRow O6 (gcs vo1 vs1 vh1 vr1 vq1 g.next)).heap[O7]? = some (.cells zg 27 (0, 0)) := (setRow_other _ _ _ _ (fun e => hne e.symm)).trans e7
    have hn2 : n1 ≤ (w.setRow O6 (gcs vo1 vs1 vh1 vr1 vq1 g.next)).heap.size := by simpa using hn
    refine wpAnyH_ready (rs := [8]) (by kernel_rfl) (by simp) (AllReadyH.cons rfl (fun K hK => ?_) AllReadyH.nil)
    rw [if_pos (by rfl)]
    refine wp_store_row 27 (.tmp 6) (.tmp 14) rfl O6 (gcs vo1 vs1 vh1 vr1 vq1 g.next) rfl rfl 27 _ e6 (by kernel_rfl) rfl (by have q1 := ho1 vo1 (by simp); have q2 := ho1 vs1 (by simp); have q3 := ho1 vh1 (by simp); have q4 := ho1 vr1 (by simp); have q5 := ho1 vq1 (by simp); simp [q1, q2, q3, q4, q5, show ∀ k (z : Int), (Value.int k z).oneCell' = true from fun _ _ => rfl]) ?_
    generalize w.setRow O6 (gcs vo1 vs1 vh1 vr1 vq1 g.next) = w8 at *
    refine hK.out _ _ g1.l (fun _ => ?_)
    clear hK K e6 e7 t1 h1
    change wpAnyH _ _ _ _ _ _ _ (Act.put _ none undef) _
    simp only [Act.put]
    have t2 : Kg.Touch X w8 (w8.setRow O7 (gcs vo2 vs2 vh2 vr2 vq2 g'.next)) := ⟨rfl, rfl, rfl, by simp, fun k _ hk => setRow_other w8 _ k _ (fun e => hk (by rw [e]; exact m7))⟩
    have g2 := g1.write t2 hn2 h2
    have b7 : (w8.setRow O7 (gcs vo2 vs2 vh2 vr2 vq2 g'.next)).heap[O7]? = some (.cells (gcs vo2 vs2 vh2 vr2 vq2 g'.next) 27 (0, 0)) := setRow_heap _ _ _ _ _ _ a7
    have b6 : (w8.setRow O7 (gcs vo2 vs2 vh2 vr2 vq2 g'.next)).heap[O6]? = some (.cells (gcs vo1 vs1 vh1 vr1 vq1 g.next) 27 (0, 0)) := (setRow_other _ _ _ _ hne).trans a6
    have hn3 : n1 ≤ (w8.setRow O7 (gcs vo2 vs2 vh2 vr2 vq2 g'.next)).heap.size := by simpa using hn2
    refine wpAnyH_ready (rs := [9]) (by kernel_rfl) (by simp) (AllReadyH.cons rfl (fun K hK => ?_) AllReadyH.nil)
    rw [if_pos (by rfl)]
    refine wp_store_row 27 (.tmp 7) (.tmp 17) rfl O7 (gcs vo2 vs2 vh2 vr2 vq2 g'.next) rfl rfl 27 _ a7 (by kernel_rfl) rfl (by have q1 := ho2 vo2 (by simp); have q2 := ho2 vs2 (by simp); have q3 := ho2 vh2 (by simp); have q4 := ho2 vr2 (by simp); have q5 := ho2 vq2 (by simp); simp [q1, q2, q3, q4, q5, show ∀ k (z : Int), (Value.int k z).oneCell' = true from fun _ _ => rfl]) ?_
    generalize w8.setRow O7 (gcs vo2 vs2 vh2 vr2 vq2 g'.next) = w9 at *
    refine hK.out _ _ g2.l (fun _ => ?_)
    clear hK K a6 a7 t2
    change wpAnyH _ _ _ _ _ _ _ (Act.put _ none undef) _
    simp only [Act.put]
    refine wpAnyH_done (by kernel_rfl) ?_ _
    exact HE.out O6 O7 _ _ w9 ⟨N, S, _, _, g2.free, b6, b7, hn3, g2.bd.z _ (List.mem_append_left _ m6), g2.bd.z _ (List.mem_append_left _ m7)⟩
  have T111 : Hid (∀ (listed : Array Bool) (p6 p7 v14 : Value) (w : World), listed = #[true, true, true, true, true, false, true, true, false, false] → Q17 w1 n1 g g' 1 true true p6 p7 v14 undef w → wpAnyH Try.prog .any rg2 Q (fun w' => Below n1 w1 w') 3 listed (fr17 G G' A n1 p6 p7 v14 undef) w) := by
    intro listed p6 p7 v14 w hl hq
    subst hl
    refine wpAnyH_ready (rs := [5]) (by kernel_rfl) (by simp) (AllReadyH.cons (o := { dst := some 17, op := Op.call { callee := Callee.value (Operand.func 4), args := #[Operand.tmp 15, Operand.tmp 16], argTypes := #[ 28, 27 ] }, type := 27, pos := "exact.go:123", after := #[{ on := 3, ground := Ground.data }, { on := 4, ground := Ground.data }, { on := 2, ground := Ground.chain }], guard := none }) rfl (fun K hK => ?_) AllReadyH.nil)
    · go_simp
      refine (HC2.out _ _ _ _ _ _ _ hq).mono ?_
      rintro e w' ⟨v, rfl, hq'⟩
      refine hK.out _ _ hq'.l (fun _ => ?_)
      exact T211.out _ _ _ _ _ _ (by kernel_rfl) hq'
  have T201 : Hid (∀ (listed : Array Bool) (p7 v14 v17 : Value) (w : World), listed = #[true, true, true, true, true, true, false, true, false, false] → Q17 w1 n1 g g' 2 false true undef p7 v14 v17 w → wpAnyH Try.prog .any rg2 Q (fun w' => Below n1 w1 w') 3 listed (fr17 G G' A n1 undef p7 v14 v17) w) := by
    intro listed p7 v14 v17 w hl hq
    subst hl
    refine wpAnyH_ready (rs := [6]) (by kernel_rfl) (by simp) (AllReadyH.cons (o := { dst := some 6, op := Op.alloc 27, type := 0, pos := "exact.go:123", after := #[], guard := none }) rfl (fun K hK => ?_) AllReadyH.nil)
    · go_simp
      refine hK.out _ _ hq.lay6.l (fun _ => ?_)
      exact T211.out _ _ _ _ _ _ (by kernel_rfl) hq.lay6
  have T210 : Hid (∀ (listed : Array Bool) (p6 v14 v17 : Value) (w : World), listed = #[true, true, true, true, true, true, true, false, false, false] → Q17 w1 n1 g g' 2 true false p6 undef v14 v17 w → wpAnyH Try.prog .any rg2 Q (fun w' => Below n1 w1 w') 3 listed (fr17 G G' A n1 p6 undef v14 v17) w) := by
    intro listed p6 v14 v17 w hl hq
    subst hl
    refine wpAnyH_ready (rs := [7]) (by kernel_rfl) (by simp) (AllReadyH.cons (o := { dst := some 7, op := Op.alloc 27, type := 0, pos := "exact.go:123", after := #[], guard := none }) rfl (fun K hK => ?_) AllReadyH.nil)
    · go_simp
      refine hK.out _ _ hq.lay7.l (fun _ => ?_)
      exact T211.out _ _ _ _ _ _ (by kernel_rfl) hq.lay7
  have T011 : Hid (∀ (listed : Array Bool) (p6 p7 : Value) (w : World), listed = #[true, true, false, true, true, false, true, true, false, false] → Q17 w1 n1 g g' 0 true true p6 p7 undef undef w → wpAnyH Try.prog .any rg2 Q (fun w' => Below n1 w1 w') 4 listed (fr17 G G' A n1 p6 p7 undef undef) w) := by
    intro listed p6 p7 w hl hq
    subst hl
    refine wpAnyH_ready (rs := [2]) (by kernel_rfl) (by simp) (AllReadyH.cons (o := { dst := some 14, op := Op.call { callee := Callee.value (Operand.func 4), args := #[Operand.tmp 12, Operand.tmp 13], argTypes := #[ 28, 27 ] }, type := 27, pos := "exact.go:123", after := #[{ on := 0, ground := Ground.data }, { on := 1, ground := Ground.data }], guard := none }) rfl (fun K hK => ?_) AllReadyH.nil)
    · go_simp
      refine (HC1.out _ _ _ _ _ _ _ hq).mono ?_
      rintro e w' ⟨v, rfl, hq'⟩
      refine hK.out _ _ hq'.l (fun _ => ?_)
      exact T111.out _ _ _ _ _ (by kernel_rfl) hq'
  have T101 : Hid (∀ (listed : Array Bool) (p7 v14 : Value) (w : World), listed = #[true, true, true, true, true, false, false, true, false, false] → Q17 w1 n1 g g' 1 false true undef p7 v14 undef w → wpAnyH Try.prog .any rg2 Q (fun w' => Below n1 w1 w') 4 listed (fr17 G G' A n1 undef p7 v14 undef) w) := by
    intro listed p7 v14 w hl hq
    subst hl
    refine wpAnyH_ready (rs := [5, 6]) (by kernel_rfl) (by simp) (AllReadyH.cons (o := { dst := some 17, op := Op.call { callee := Callee.value (Operand.func 4), args := #[Operand.tmp 15, Operand.tmp 16], argTypes := #[ 28, 27 ] }, type := 27, pos := "exact.go:123", after := #[{ on := 3, ground := Ground.data }, { on := 4, ground := Ground.data }, { on := 2, ground := Ground.chain }], guard := none }) rfl (fun K hK => ?_) (AllReadyH.cons (o := { dst := some 6, op := Op.alloc 27, type := 0, pos := "exact.go:123", after := #[], guard := none }) rfl (fun K hK => ?_) AllReadyH.nil))
    · go_simp
      refine (HC2.out _ _ _ _ _ _ _ hq).mono ?_
      rintro e w' ⟨v, rfl, hq'⟩
      refine hK.out _ _ hq'.l (fun _ => ?_)
      exact T201.out _ _ _ _ _ (by kernel_rfl) hq'
    · go_simp
      refine hK.out _ _ hq.lay6.l (fun _ => ?_)
      exact T111.out _ _ _ _ _ (by kernel_rfl) hq.lay6
  have T110 : Hid (∀ (listed : Array Bool) (p6 v14 : Value) (w : World), listed = #[true, true, true, true, true, false, true, false, false, false] → Q17 w1 n1 g g' 1 true false p6 undef v14 undef w → wpAnyH Try.prog .any rg2 Q (fun w' => Below n1 w1 w') 4 listed (fr17 G G' A n1 p6 undef v14 undef) w) := by
    intro listed p6 v14 w hl hq
    subst hl
    refine wpAnyH_ready (rs := [5, 7]) (by kernel_rfl) (by simp) (AllReadyH.cons (o := { dst := some 17, op := Op.call { callee := Callee.value (Operand.func 4), args := #[Operand.tmp 15, Operand.tmp 16], argTypes := #[ 28, 27 ] }, type := 27, pos := "exact.go:123", after := #[{ on := 3, ground := Ground.data }, { on := 4, ground := Ground.data }, { on := 2, ground := Ground.chain }], guard := none }) rfl (fun K hK => ?_) (AllReadyH.cons (o := { dst := some 7, op := Op.alloc 27, type := 0, pos := "exact.go:123", after := #[], guard := none }) rfl (fun K hK => ?_) AllReadyH.nil))
    · go_simp
      refine (HC2.out _ _ _ _ _ _ _ hq).mono ?_
      rintro e w' ⟨v, rfl, hq'⟩
      refine hK.out _ _ hq'.l (fun _ => ?_)
      exact T210.out _ _ _ _ _ (by kernel_rfl) hq'
    · go_simp
      refine hK.out _ _ hq.lay7.l (fun _ => ?_)
      exact T111.out _ _ _ _ _ (by kernel_rfl) hq.lay7
  have T200 : Hid (∀ (listed : Array Bool) (v14 v17 : Value) (w : World), listed = #[true, true, true, true, true, true, false, false, false, false] → Q17 w1 n1 g g' 2 false false undef undef v14 v17 w → wpAnyH Try.prog .any rg2 Q (fun w' => Below n1 w1 w') 4 listed (fr17 G G' A n1 undef undef v14 v17) w) := by
    intro listed v14 v17 w hl hq
    subst hl
    refine wpAnyH_ready (rs := [6, 7]) (by kernel_rfl) (by simp) (AllReadyH.cons (o := { dst := some 6, op := Op.alloc 27, type := 0, pos := "exact.go:123", after := #[], guard := none }) rfl (fun K hK => ?_) (AllReadyH.cons (o := { dst := some 7, op := Op.alloc 27, type := 0, pos := "exact.go:123", after := #[], guard := none }) rfl (fun K hK => ?_) AllReadyH.nil))
    · go_simp
      refine hK.out _ _ hq.lay6.l (fun _ => ?_)
      exact T210.out _ _ _ _ _ (by kernel_rfl) hq.lay6
    · go_simp
      refine hK.out _ _ hq.lay7.l (fun _ => ?_)
      exact T201.out _ _ _ _ _ (by kernel_rfl) hq.lay7
  have T001 : Hid (∀ (listed : Array Bool) (p7 : Value) (w : World), listed = #[true, true, false, true, true, false, false, true, false, false] → Q17 w1 n1 g g' 0 false true undef p7 undef undef w → wpAnyH Try.prog .any rg2 Q (fun w' => Below n1 w1 w') 5 listed (fr17 G G' A n1 undef p7 undef undef) w) := by
    intro listed p7 w hl hq
    subst hl
    refine wpAnyH_ready (rs := [2, 6]) (by kernel_rfl) (by simp) (AllReadyH.cons (o := { dst := some 14, op := Op.call { callee := Callee.value (Operand.func 4), args := #[Operand.tmp 12, Operand.tmp 13], argTypes := #[ 28, 27 ] }, type := 27, pos := "exact.go:123", after := #[{ on := 0, ground := Ground.data }, { on := 1, ground := Ground.data }], guard := none }) rfl (fun K hK => ?_) (AllReadyH.cons (o := { dst := some 6, op := Op.alloc 27, type := 0, pos := "exact.go:123", after := #[], guard := none }) rfl (fun K hK => ?_) AllReadyH.nil))
    · go_simp
      refine (HC1.out _ _ _ _ _ _ _ hq).mono ?_
      rintro e w' ⟨v, rfl, hq'⟩
      refine hK.out _ _ hq'.l (fun _ => ?_)
      exact T101.out _ _ _ _ (by kernel_rfl) hq'
    · go_simp
      refine hK.out _ _ hq.lay6.l (fun _ => ?_)
      exact T011.out _ _ _ _ (by kernel_rfl) hq.lay6
  have T010 : Hid (∀ (listed : Array Bool) (p6 : Value) (w : World), listed = #[true, true, false, true, true, false, true, false, false, false] → Q17 w1 n1 g g' 0 true false p6 undef undef undef w → wpAnyH Try.prog .any rg2 Q (fun w' => Below n1 w1 w') 5 listed (fr17 G G' A n1 p6 undef undef undef) w) := by
    intro listed p6 w hl hq
    subst hl
    refine wpAnyH_ready (rs := [2, 7]) (by kernel_rfl) (by simp) (AllReadyH.cons (o := { dst := some 14, op := Op.call { callee := Callee.value (Operand.func 4), args := #[Operand.tmp 12, Operand.tmp 13], argTypes := #[ 28, 27 ] }, type := 27, pos := "exact.go:123", after := #[{ on := 0, ground := Ground.data }, { on := 1, ground := Ground.data }], guard := none }) rfl (fun K hK => ?_) (AllReadyH.cons (o := { dst := some 7, op := Op.alloc 27, type := 0, pos := "exact.go:123", after := #[], guard := none }) rfl (fun K hK => ?_) AllReadyH.nil))
    · go_simp
      refine (HC1.out _ _ _ _ _ _ _ hq).mono ?_
      rintro e w' ⟨v, rfl, hq'⟩
      refine hK.out _ _ hq'.l (fun _ => ?_)
      exact T110.out _ _ _ _ (by kernel_rfl) hq'
    · go_simp
      refine hK.out _ _ hq.lay7.l (fun _ => ?_)
      exact T011.out _ _ _ _ (by kernel_rfl) hq.lay7
  have T100 : Hid (∀ (listed : Array Bool) (v14 : Value) (w : World), listed = #[true, true, true, true, true, false, false, false, false, false] → Q17 w1 n1 g g' 1 false false undef undef v14 undef w → wpAnyH Try.prog .any rg2 Q (fun w' => Below n1 w1 w') 5 listed (fr17 G G' A n1 undef undef v14 undef) w) := by
    intro listed v14 w hl hq
    subst hl
    refine wpAnyH_ready (rs := [5, 6, 7]) (by kernel_rfl) (by simp) (AllReadyH.cons (o := { dst := some 17, op := Op.call { callee := Callee.value (Operand.func 4), args := #[Operand.tmp 15, Operand.tmp 16], argTypes := #[ 28, 27 ] }, type := 27, pos := "exact.go:123", after := #[{ on := 3, ground := Ground.data }, { on := 4, ground := Ground.data }, { on := 2, ground := Ground.chain }], guard := none }) rfl (fun K hK => ?_) (AllReadyH.cons (o := { dst := some 6, op := Op.alloc 27, type := 0, pos := "exact.go:123", after := #[], guard := none }) rfl (fun K hK => ?_) (AllReadyH.cons (o := { dst := some 7, op := Op.alloc 27, type := 0, pos := "exact.go:123", after := #[], guard := none }) rfl (fun K hK => ?_) AllReadyH.nil)))
    · go_simp
      refine (HC2.out _ _ _ _ _ _ _ hq).mono ?_
      rintro e w' ⟨v, rfl, hq'⟩
      refine hK.out _ _ hq'.l (fun _ => ?_)
      exact T200.out _ _ _ _ (by kernel_rfl) hq'
    · go_simp
      refine hK.out _ _ hq.lay6.l (fun _ => ?_)
      exact T110.out _ _ _ _ (by kernel_rfl) hq.lay6
    · go_simp
      refine hK.out _ _ hq.lay7.l (fun _ => ?_)
      exact T101.out _ _ _ _ (by kernel_rfl) hq.lay7
  have T000 : Hid (∀ (listed : Array Bool) (w : World), listed = #[true, true, false, true, true, false, false, false, false, false] → Q17 w1 n1 g g' 0 false false undef undef undef undef w → wpAnyH Try.prog .any rg2 Q (fun w' => Below n1 w1 w') 6 listed (fr17 G G' A n1 undef undef undef undef) w) := by
    intro listed w hl hq
    subst hl
    refine wpAnyH_ready (rs := [2, 6, 7]) (by kernel_rfl) (by simp) (AllReadyH.cons (o := { dst := some 14, op := Op.call { callee := Callee.value (Operand.func 4), args := #[Operand.tmp 12, Operand.tmp 13], argTypes := #[ 28, 27 ] }, type := 27, pos := "exact.go:123", after := #[{ on := 0, ground := Ground.data }, { on := 1, ground := Ground.data }], guard := none }) rfl (fun K hK => ?_) (AllReadyH.cons (o := { dst := some 6, op := Op.alloc 27, type := 0, pos := "exact.go:123", after := #[], guard := none }) rfl (fun K hK => ?_) (AllReadyH.cons (o := { dst := some 7, op := Op.alloc 27, type := 0, pos := "exact.go:123", after := #[], guard := none }) rfl (fun K hK => ?_) AllReadyH.nil)))
    · go_simp
      refine (HC1.out _ _ _ _ _ _ _ hq).mono ?_
      rintro e w' ⟨v, rfl, hq'⟩
      refine hK.out _ _ hq'.l (fun _ => ?_)
      exact T100.out _ _ _ (by kernel_rfl) hq'
    · go_simp
      refine hK.out _ _ hq.lay6.l (fun _ => ?_)
      exact T010.out _ _ _ (by kernel_rfl) hq.lay6
    · go_simp
      refine hK.out _ _ hq.lay7.l (fun _ => ?_)
      exact T001.out _ _ _ (by kernel_rfl) hq.lay7
  exact T000.out _ _ rfl HI.out

end Go.Proofs.Ytckcdahjajmddaa
