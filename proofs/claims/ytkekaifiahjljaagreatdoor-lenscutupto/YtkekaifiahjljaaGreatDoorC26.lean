import Derived.Test.YtkekaifiahjljaaGreatDoorC25
set_option linter.unusedVariables false
set_option maxHeartbeats 8000000
set_option maxRecDepth 20000
namespace Go.Proofs.YtkekaifiahjljaaGreatDoor
open Go.RowKit Go.Shelf Go.Proofs.YtkekaifiahjljaaGreatDoor.Lt
variable {par : Nat → Nat} {p q : Nat} {σ : Nat → Nat} {B fb sb ab bb sc ac bc : Nat}
theorem abv_link (q : Nat) (par fa : Nat → Nat) : (fun y => if y = q then ((par q : Nat) : Int) else abv (q + 1) fa y) = abv q (fun v => if v = q then par q else fa v) := by
  funext y
  unfold abv
  by_cases e : y = q
  · rw [if_pos e, if_neg (by omega)]
    show _ = ((if y = q then par q else fa y : Nat) : Int)
    rw [if_pos e]
  · by_cases h : y < q
    · rw [if_neg e, if_pos (by omega), if_pos h]
    · rw [if_neg e, if_neg (by omega), if_neg h]
      show _ = ((if y = q then par q else fa y : Nat) : Int)
      rw [if_neg e]
theorem bst_link (q : Nat) (bs : Nat → Nat) : bst (q + 1) bs = bst q (fun v => if v = q then q else bs v) := by
  funext y
  unfold bst
  by_cases e : y = q
  · rw [if_pos (by omega), if_neg (by omega)]
    show _ = ((if y = q then q else bs y : Nat) : Int)
    rw [if_pos e, e]
  · by_cases h : y < q
    · rw [if_pos (by omega), if_pos h]
    · rw [if_neg (by omega), if_neg h]
      show _ = ((if y = q then q else bs y : Nat) : Int)
      rw [if_neg e]
theorem Fst.link {E : Nat → Nat → Prop} (D : Dt E par p) {w : World} {F : List Nat} (h : Fst par p (q + 1) σ B fb sb ab bb sc ac bc w F) (h0 : q ≠ 0) (hq : q < p) : Fst par p q σ B fb sb ab bb sc ac bc (w.setCell ⟨ab, q, none⟩ (.int .i64 (par q : Nat))) F := by
  obtain ⟨tv, l, fa, bs, h1, h2, rfl⟩ := h
  refine ⟨tv, l, _, _, ?_, D.fo_link h2 h0 hq, rfl⟩
  have h3 := h1.setA hq (par q : Nat)
  rw [abv_link, bst_link] at h3
  exact h3
theorem Rk.semi {E : Nat → Nat → Prop} (D : Dt E par p) {z s : Nat} {L : List Nat} (h : Rk par σ z L L s) (h0 : z ≠ 0) (hz : z < p) (hL : ∀ x, x ∈ L ↔ E x z) (hS : ∀ u, z < u → u < p → Sp E u (σ u) ∧ ∀ x, Sp E u x → σ u ≤ x) : Sp E z s ∧ ∀ x, Sp E z x → s ≤ x := by
  refine D.semi h0 hz hS ?_ (fun v hv => h.b v ((hL v).2 hv))
  rcases h.a with h1 | ⟨v, hv, h1⟩
  · exact .inl h1
  · exact .inr ⟨v, (hL v).1 hv, h1⟩
structure Rn (par : Nat → Nat) (p q : Nat) (σ : Nat → Nat) (w wr : World) (fb sb ab bb sc ac bc tb R : Nat) (wt : Nat → List Nat) (tg : Nat → Nat) (vs : Nat → Value) (F : List Nat) : Prop where
  f : Fst par p q σ w.heap.size fb sb ab bb sc ac bc wr F
  t : Fy wr tb p (fun x => (tg x : Int))
  l : Ll wr w.heap.size R p vs (fun i => (wt i).map Int.ofNat)
  tF : tb ∉ F
  tL : tb ∉ llF R p vs
  d : ∀ k, k ∈ F → k ∉ llF R p vs
  tlo : w.heap.size ≤ tb
  bl : Below w.heap.size w wr
variable {w wr w' : World} {tb R : Nat} {wt wt2 : Nat → List Nat} {tg : Nat → Nat} {vs vs2 : Nat → Value} {F F' : List Nat}
theorem Rn.forest (h : Rn par p q σ w wr fb sb ab bb sc ac bc tb R wt tg vs F) {q' : Nat} {σ' : Nat → Nat} (f' : Fst par p q' σ' w.heap.size fb sb ab bb sc ac bc w' F') (ht : Kg.Touch F wr w') (hn : Kg.Newer wr.heap.size F F') : Rn par p q' σ' w w' fb sb ab bb sc ac bc tb R wt tg vs F' := by
  refine ⟨f', h.t.touch ht h.tF, h.l.keep ht (fun k hk hF => h.d k hF hk), fun hm => ?_, h.tL, fun k hk hl => ?_, h.tlo, h.bl.trans (ht.below h.bl.size (fun k hk => (h.f.mem k hk).1))⟩
  · rcases hn tb hm with h1 | h1
    · exact h.tF h1
    · have := h.t.lt
      omega
  · rcases hn k hk with h1 | h1
    · exact h.d k h1 hl
    · have := (h.l.mem k hl).2
      omega
theorem Rn.wait (h : Rn par p q σ w wr fb sb ab bb sc ac bc tb R wt tg vs F) (l' : Ll w' w.heap.size R p vs2 (fun i => (wt2 i).map Int.ofNat)) (ht : Kg.Touch (llF R p vs) wr w') (hn : Kg.Newer wr.heap.size (llF R p vs) (llF R p vs2)) : Rn par p q σ w w' fb sb ab bb sc ac bc tb R wt2 tg vs2 F := by
  refine ⟨h.f.keep ht (fun k hk => h.d k hk), h.t.touch ht h.tL, l', h.tF, fun hm => ?_, fun k hk hl => ?_, h.tlo, h.bl.trans (ht.below h.bl.size (fun k hk => (h.l.mem k hk).1))⟩
  · rcases hn tb hm with h1 | h1
    · exact h.tL h1
    · have := h.t.lt
      omega
  · rcases hn k hl with h1 | h1
    · exact h.d k hk h1
    · have := (h.f.mem k hk).2
      omega
theorem Rn.tell (h : Rn par p q σ w wr fb sb ab bb sc ac bc tb R wt tg vs F) {x : Nat} (hx : x < p) (v : Nat) : Rn par p q σ w (wr.setCell ⟨tb, x, none⟩ (.int .i64 (v : Nat))) fb sb ab bb sc ac bc tb R wt (fun y => if y = x then v else tg y) vs F := by
  have t : Kg.Touch [tb] wr (wr.setCell ⟨tb, x, none⟩ (.int .i64 (v : Nat))) := Kg.Touch.setCell _ _ _ (by simp)
  refine ⟨h.f.keep t (fun k hk hm => h.tF (by rw [← List.mem_singleton.1 hm]; exact hk)), (h.t.set hx (v : Nat)).congr (fun y _ => ?_), h.l.keep t (fun k hk hm => h.tL (by rw [← List.mem_singleton.1 hm]; exact hk)), h.tF, h.tL, h.d, h.tlo, h.bl.trans (t.below h.bl.size (fun k hk => by rw [List.mem_singleton.1 hk]; exact h.tlo))⟩
  by_cases e : y = x
  · rw [if_pos e, if_pos e]
  · rw [if_neg e, if_neg e]
theorem Rn.drewN (h : Rn par p q σ w wr fb sb ab bb sc ac bc tb R wt tg vs F) (n : Nat) : Rn par p q σ w (wr.drewN n) fb sb ab bb sc ac bc tb R wt tg vs F := by
  have t := Kg.Touch.drewN [] wr n
  exact ⟨h.f.keep t (by simp), h.t.touch t (by simp), h.l.keep t (by simp), h.tF, h.tL, h.d, h.tlo, h.bl.trans (t.below h.bl.size (by simp))⟩
theorem Rn.link {E : Nat → Nat → Prop} (D : Dt E par p) (h : Rn par p (q + 1) σ w wr fb sb ab bb sc ac bc tb R wt tg vs F) (h0 : q ≠ 0) (hq : q < p) : Rn par p q σ w (wr.setCell ⟨ab, q, none⟩ (.int .i64 (par q : Nat))) fb sb ab bb sc ac bc tb R wt tg vs F := by
  refine h.forest (h.f.link D h0 hq) (Kg.Touch.setCell _ _ _ ?_) (Kg.Newer.refl _ _)
  obtain ⟨tv, l, fa, bs, -, -, rfl⟩ := h.f
  simp
structure Tld (par : Nat → Nat) (σ : Nat → Nat) (l : List Nat) (j : Nat) (tg tg' : Nat → Nat) : Prop where
  g : ∀ o, o ∈ l.take j → Gs par σ o (tg' o)
  n : ∀ o, o ∉ l → tg' o = tg o
theorem Tld.start {l : List Nat} : Tld par σ l 0 tg tg := ⟨fun o h => by simp at h, fun _ _ => rfl⟩
theorem Tld.step {l : List Nat} {j o g : Nat} {tg' : Nat → Nat} (h : Tld par σ l j tg tg') (ho : l[j]? = some o) (hg : Gs par σ o g) : Tld par σ l (j + 1) tg (fun y => if y = o then g else tg' y) := by
  refine ⟨fun x hx => ?_, fun x hx => ?_⟩
  · by_cases e : x = o
    · rw [if_pos e, e]; exact hg
    · rw [if_neg e]
      rw [List.take_add_one, ho] at hx
      rcases List.mem_append.1 hx with h1 | h1
      · exact h.g x h1
      · exact absurd (by simpa using h1) e
  · rw [if_neg (fun e => hx (by rw [e]; exact List.mem_of_getElem? ho))]
    exact h.n x hx
set_option maxHeartbeats 16000000 in
theorem dominators_any (m T : Nat) (hT : T ≤ 1000000000) (hm : m ≤ 2000000) (W : Nat → List Nat) (ord : List Nat) (par : Nat → Nat) (hD : Df W ord par []) (hom : ord.length ≤ m) (w : World) (B A pb Rb : Nat) (v0 v2 : Value) (vd : Nat → Value) (L : Nat → List Nat) (hd : Dw w B A pb m v0 v2 ord ((List.range ord.length).map par) Rb) (hl : Ll w B Rb ord.length vd (fun q => (L q).map Int.ofNat)) (hLE : ∀ q x, x ∈ L q ↔ Ed W ord x q) (hLT : ∀ q, (L q).length ≤ T) :
    Calls Tryz.prog 60 #[.pointer (some ⟨A, 0, none⟩)] w fun e w' => ∃ (tb : Nat), e = .returned (.slice (some ⟨tb, 0, none⟩) ord.length ord.length) ∧ w.heap.size ≤ tb ∧ Below w.heap.size w w' ∧ ∃ (S I : Nat → Nat), Fy w' tb ord.length (fun x => (I x : Int)) ∧ Lt.Sem (Ed W ord) ord.length S ∧ Idm par ord.length S I ∧ I 0 = 0 := by
  obtain ⟨p, hp⟩ : ∃ p, p = ord.length := ⟨_, rfl⟩
  have HP : Hid (p = ord.length) := hp
  have HDt : Hid (Dt (Ed W ord) par p) := by rw [hp]; exact hD.d
  have hp1 : 1 ≤ p := by rw [hp]; exact (List.getElem?_eq_some_iff.1 hD.z).1
  have hp2 : p ≤ 2000000 := by omega
  obtain ⟨a0, c0, e0⟩ := own_sl17 hd.s
  rw [List.length_map] at e0
  subst e0
  obtain ⟨a2, c2, e2⟩ := own_sl17 hd.b
  rw [List.length_map, List.length_map, List.length_range] at e2
  subst e2
  have HX : Hid (∀ wr, Below w.heap.size w wr → wr.cell? ⟨A, 0, none⟩ = some (.slice a0 p c0) ∧ wr.cell? ⟨A, 2, none⟩ = some (.slice a2 p c2) ∧ wr.cell? ⟨A, 3, none⟩ = some (.slice (some ⟨Rb, 0, none⟩) p p)) := fun wr b => by
    rw [hp]
    have h9 := (b.block A (Kg.heap_lt hd.h)).trans hd.h
    exact ⟨Kg.heap_cell h9 0, Kg.heap_cell h9 2, Kg.heap_cell h9 3⟩
  have HY : Hid (∀ wr, Below w.heap.size w wr → ∀ q, q < p → ∃ g off, a2 = some ⟨g, off, none⟩ ∧ wr.cell? ⟨g, off + q, none⟩ = some (.int .i64 (par q : Nat))) := fun wr b q hq => by
    obtain ⟨oa, oc, eo, -, hoc⟩ := row_at (Kg.row_base hd.b (Nat.zero_le _)) (by decide)
    obtain ⟨ob, eob, h3, co⟩ := hoc q (.int .i64 (par q : Nat)) (by rw [Kg.ints, List.getElem?_map, List.getElem?_map, List.getElem?_map, List.getElem?_range (by omega)]; rfl)
    simp only [Value.slice.injEq, List.length_map, List.length_range, true_and] at eo
    obtain ⟨rfl, rfl⟩ := eo
    exact ⟨ob, 0, eob, by rw [Nat.zero_add]; exact (b.cell (p := ⟨ob, q, none⟩) h3).trans co⟩
  have HZ : Hid (∀ wr, Below w.heap.size w wr → ∀ q, q < p → wr.cell? ⟨Rb, q, none⟩ = some (vd q) ∧ Lrd w.heap.size wr (vd q) .i64 ((L q).map Int.ofNat)) := fun wr b q hq => by
    refine ⟨(b.cell (p := ⟨Rb, q, none⟩) hl.lt).trans (hl.cell (by omega)), ?_⟩
    exact (Il.lrd (hl.l q (by omega))).below b
  have HLE : Hid (∀ q x, x ∈ L q ↔ Ed W ord x q) := hLE
  have HLT : Hid (∀ q, (L q).length ≤ 1000000000) := fun q => Nat.le_trans (hLT q) hT
  obtain ⟨i0, hi0, hj0, hj1, hj2⟩ := info_p17 infoI17
  have HI : Hid (Tryz.prog.info? 3 = some i0 ∧ i0.zero = some (.int .i64 0) ∧ i0.size = 1 ∧ i0.bytes = 8) := ⟨hi0, hj0, hj1, hj2⟩
  rw [← hp]
  have qn := newForest_any par p hp1 hp2 w
  obtain ⟨x0, -, -⟩ := HX.out w (Below.refl _ _)
  have mkT := make_ints17 p (by omega)
  have mkR := make_rows17 p (by omega)
  clear hi0 hj0 hj1 hj2 hd hl hLE hLT hD hp hom
  go_enter Tryz.func60, Tryz.ntmps60
  go_wp2_with fail
  refine qn.mono ?_
  rintro e w1 ⟨fb, sb, ab, bb, sc, ac, bc, F, rfl, hF, b1⟩
  have HF1 : Hid (Fst par p p (fun v => v) w.heap.size fb sb ab bb sc ac bc w1 F) := hF
  have HB1 : Hid (Below w.heap.size w w1) := b1
  clear qn hF x0 b1
  obtain ⟨x0, -, -⟩ := HX.out w1 HB1.out
  have HB2 : Hid (Below w.heap.size w (w1.alloc (.cells (madeCells #[.int .i64 0] p) 3))) := HB1.out.trans ((Below.alloc (Below.refl w1.heap.size w1) (Nat.le_refl _) _).mono HB1.out.size)
  have x1 := (HX.out _ HB2.out).1
  go_upto_region 4 with fail
  have HR0 : Hid (Rn par p p (fun v => v) w ((w1.alloc (.cells (madeCells #[.int .i64 0] p) 3)).alloc (.cells (madeCells #[.slice none 0 0] p) 24)) fb sb ab bb sc ac bc w1.heap.size (w1.heap.size + 1) (fun _ => []) (fun _ => 0) (fun _ => .slice none 0 0) F) := by
    have hs2 : (w1.alloc (.cells (madeCells #[.int .i64 0] p) 3)).heap.size = w1.heap.size + 1 := by simp
    have b2 : Below w1.heap.size w1 ((w1.alloc (.cells (madeCells #[.int .i64 0] p) 3)).alloc (.cells (madeCells #[.slice none 0 0] p) 24)) := (Below.alloc (Below.refl _ _) (Nat.le_refl _) _).trans ((Below.alloc (Below.refl _ _) (Nat.le_refl _) _).mono (by rw [hs2]; omega))
    have hl0 := Ll.new (w1.alloc (.cells (madeCells #[.int .i64 0] p) 3)) p
    rw [hs2] at hl0
    obtain ⟨cs, f1, f2, f3⟩ := (Fw.new w1 p).ex
    have hF0 : Fy (w1.alloc (.cells (madeCells #[.int .i64 0] p) 3)) w1.heap.size p (fun _ => ((0 : Nat) : Int)) := ⟨cs, f1, by omega, f3⟩
    have hws := HB1.out.size
    refine ⟨HF1.out.keep (Kg.Touch.of_below b2 []) (by simp), hF0.touch (Kg.Touch.of_below (Below.alloc (Below.refl _ _) (Nat.le_refl _) _) []) (by simp), ⟨hl0.h, fun i hi => World.ownsRow_nil _ _ _ _, hl0.d, by omega⟩, fun hm => ?_, fun hm => ?_, fun k hk hm => ?_, hws, HB1.out.trans (b2.mono hws)⟩
    · have := (HF1.out.mem _ hm).2
      omega
    · rcases mem_llF.1 hm with h1 | ⟨i, hi, h1⟩
      · omega
      · simp [Value.ownBlock] at h1
    · rcases mem_llF.1 hm with h1 | ⟨i, hi, h1⟩
      · have := (HF1.out.mem _ hk).2
        omega
      · simp [Value.ownBlock] at h1
  obtain ⟨tb, htb⟩ : ∃ tb, tb = w1.heap.size := ⟨_, rfl⟩
  obtain ⟨R, hR⟩ : ∃ R, R = w1.heap.size + 1 := ⟨_, rfl⟩
  rw [← hR, ← htb] at HR0
  change Code.wp _ _ _ _ ((w1.alloc (.cells (madeCells #[.int .i64 0] p) 3)).alloc (.cells (madeCells #[.slice none 0 0] p) 24))
  rw [← hR, ← htb]
  clear hR htb HB2 x0 x1 mkT mkR
  generalize (w1.alloc (.cells (madeCells #[.int .i64 0] p) 3)).alloc (.cells (madeCells #[.slice none 0 0] p) 24) = w3 at *
  clear HF1 HB1
  obtain ⟨x0, -, -⟩ := HX.out w3 HR0.out.bl
  have hp9 : (p : Int) - 1 = ((p - 1 : Nat) : Int) := by omega
  go_wp2
  go_loopw [6, 7, 9] (fun v6 _ _ wr => ∃ (q : Nat) (σ : Nat → Nat) (wt : Nat → List Nat) (tg : Nat → Nat) (vs : Nat → Value) (F : List Nat), v6 = .int .i64 (q : Nat) ∧ q < p ∧ Hid (Rn par p (q + 1) σ w wr fb sb ab bb sc ac bc tb R wt tg vs F) ∧ Hid (Ma (Ed W ord) par p (q + 1) σ wt tg)) (fun v6 _ _ _ => (intOf v6).toNat)
  case atStart =>
    refine ⟨p - 1, fun v => v, fun _ => [], fun _ => 0, fun _ => .slice none 0 0, F, rfl, by omega, ?_, ?_⟩
    · rw [Nat.sub_add_cancel hp1]; exact HR0
    · rw [Nat.sub_add_cancel hp1]; exact ma_start
  case round =>
    obtain ⟨q, σ, wt, tg, vs, F1, rfl, hqp, R1, M1⟩ := hrel
    clear x0 HR0 F
    by_cases hq0 : q = 0
    · subst hq0
      have R9 : Hid (Rn par p 1 σ w wr fb sb ab bb sc ac bc tb R wt tg vs F1) := R1
      have HS : Hid (Lt.Sem (Ed W ord) p σ ∧ ∀ w, w ≠ 0 → w < p → Gs par σ w (tg w)) := ma_end M1.out
      have H0 : Hid (σ 0 = 0 ∧ tg 0 = 0 ∧ ∀ w, w ≠ 0 → w < p → σ w < w) := ⟨M1.out.lo 0 (by omega), M1.out.t0, fun w h0 hw => (HDt.out.sem_anc HS.out.1 h0 hw).1⟩
      clear R1 M1
      go_wp2
      go_loopw [10, 106] (fun _ v106 wr => ∃ (k : Nat) (ft : Nat → Nat), v106 = .int .i64 (k : Nat) ∧ k ≤ p ∧ Hid (Rn par p 1 σ w wr fb sb ab bb sc ac bc tb R wt ft vs F1) ∧ Hid (La par p k σ tg ft)) (fun _ v106 _ => p - (intOf v106).toNat)
      case atStart => exact ⟨0, tg, rfl, Nat.zero_le _, R9, La.start H0.out.2.1⟩
      case round =>
        obtain ⟨k, ft, rfl, hk, Q1, Q2⟩ := hrel
        by_cases hkp : k < p
        · have hki : (k : Int) < (p : Int) := by omega
          obtain ⟨ls1, ls2⟩ := HDt.out.la_step Q2.out hkp H0.out.1 H0.out.2.2 HS.out.2
          have hfk : ft k = tg k := Q2.out.up k (Nat.le_refl _)
          have HLa : Hid (La par p (k + 1) σ tg (fun v => if v = k then (if tg k ≠ σ k then ft (tg k) else tg k) else ft v)) := ls2
          obtain ⟨tvF, lF, faF, bsF, hRF, -, -⟩ := id Q1.out.f
          have y0 := hRF.cells.1
          have ys := hRF.s.cell hkp
          have ct := Q1.out.t.cell hkp
          rw [hfk] at ct
          have htp : tg k < p := by omega
          have hti : (tg k : Int) < (p : Int) := by omega
          clear hRF ls2
          by_cases he : tg k = σ k
          · have g2 : ((tg k : Int) != (σ k : Int)) = false := by rw [he]; simp
            have HLb : Hid (La par p (k + 1) σ tg ft) := by
              have h9 := HLa.out
              have e9 : (fun v => if v = k then (if tg k ≠ σ k then ft (tg k) else tg k) else ft v) = ft := by
                funext v
                by_cases e : v = k
                · rw [if_pos e, if_neg (by simp [he]), e, hfk]
                · rw [if_neg e]
              rw [e9] at h9
              exact h9
            clear HLa hfk he
            go_upto_region 20 with fail
            go_quiet (fail)
            have Q3 : Hid (Rn par p 1 σ w (wr.drewN nq) fb sb ab bb sc ac bc tb R wt ft vs F1) := Q1.out.drewN nq
            clear y0 ys ct Q1 Q2
            generalize wr.drewN nq = w2 at *
            go_wp2
            go_roundw
            case rel => exact ⟨k + 1, ft, by go_num, by omega, Q3, HLb⟩
            case measure => simp [intOf]; omega
          · have g2 : ((tg k : Int) != (σ k : Int)) = true := bne_iff_ne.2 (by omega)
            have HLb : Hid (La par p (k + 1) σ tg (fun y => if y = k then ft (tg k) else ft y)) := by
              have h9 := HLa.out
              rw [if_pos he] at h9
              exact h9
            clear HLa hfk he
            go_upto_region 20 with fail
            go_quiet (fail)
            have Q3 : Hid (Rn par p 1 σ w (wr.drewN nq) fb sb ab bb sc ac bc tb R wt ft vs F1) := Q1.out.drewN nq
            have hfk : ft k = tg k := Q2.out.up k (Nat.le_refl _)
            clear y0 ys ct Q1 Q2
            generalize wr.drewN nq = w2 at *
            have ct := Q3.out.t.cell hkp
            have ctt := Q3.out.t.cell htp
            have zt := Q3.out.t.frozen k
            rw [hfk] at ct
            have Q4 : Hid (Rn par p 1 σ w (w2.setCell ⟨tb, k, none⟩ (.int .i64 (ft (tg k) : Nat))) fb sb ab bb sc ac bc tb R wt (fun y => if y = k then ft (tg k) else ft y) vs F1) := Q3.out.tell hkp (ft (tg k))
            clear Q3 hfk
            go_wp2
            go_roundw
            case rel => exact ⟨k + 1, _, by go_num, by omega, Q4, HLb⟩
            case measure => simp [intOf]; omega
        · have hki : ¬ (k : Int) < (p : Int) := by omega
          have e9 : k = p := by omega
          have HE : Hid (Idm par p σ ft ∧ ft 0 = 0) := by
            have h9 := Q2.out
            rw [e9] at h9
            exact ⟨h9.idm, h9.z⟩
          clear e9
          go_wp2
          go_ret
          exact ⟨tb, rfl, Q1.out.tlo, Q1.out.bl, σ, ft, Q1.out.t, HS.out.1, HE.out.1, HE.out.2⟩
    · have hqi : (0 : Int) < (q : Int) := by omega
      have hqI : (q : Int) < (p : Int) := by omega
      obtain ⟨-, -, x3⟩ := HX.out wr R1.out.bl
      obtain ⟨x4, lq⟩ := HZ.out wr R1.out.bl q hqp
      obtain ⟨da, dc, ed, -⟩ := id lq
      rw [List.length_map] at ed
      rw [ed] at x4 lq
      have qk := reckon_any HDt.out hp2 q hqp (fun y hy => M1.out.lo y (by omega)) (L q) (fun x hx => (HDt.out.el x q ((HLE.out q x).1 hx)).1) (HLT.out q) wr F1 R1.out.f R1.out.bl.size w.heap.size (Nat.le_refl _) (.slice da (L q).length dc) lq
      clear lq ed
      go_wp2_with fail
      refine qk.mono ?_
      rintro e w5 ⟨rfl, s, F2, hRk, hF2, ht, hn⟩
      have HSq : Hid (Sp (Ed W ord) q s ∧ ∀ x, Sp (Ed W ord) q x → s ≤ x) := hRk.semi HDt.out hq0 hqp (HLE.out q) (fun u h1 h2 => M1.out.hi u (by omega) h2)
      have hsq := (HDt.out.sp_low hq0 hqp HSq.out).1
      have R2 : Hid (Rn par p (q + 1) (sat σ q s) w w5 fb sb ab bb sc ac bc tb R wt tg vs F2) := R1.out.forest hF2 ht hn
      clear qk hRk hF2 ht hn x3 x4 R1
      obtain ⟨va, vc, ev⟩ := own_sl17 (R2.out.l.l s (by omega))
      rw [List.length_map] at ev
      have HEV : Hid (vs s = .slice va (wt s).length vc) := ev
      have HSS : Hid (sat σ q s q = s) := sat_at q s
      have HWL : Hid (∀ x, (wt x).length ≤ 2000000) := fun x => by
        have h1 := sum_sub (fun _ => 1) (wt x) (List.range p) (M1.out.nd x) (fun o ho => List.mem_range.2 (M1.out.wi x o ho).2.1)
        rw [sum_one, sum_one, List.length_range] at h1
        omega
      have hwl := HWL.out s
      have hsI : (s : Int) < (p : Int) := by omega
      clear ev
      go_upto_region 8 with fail
      obtain ⟨tvF, lF, faF, bsF, hRF, -, -⟩ := id R2.out.f
      have s0 : w5.drew.cell? ⟨fb, 0, none⟩ = some (.slice (some ⟨sb, 0, none⟩) p sc) := hRF.cells.1
      have s1 : w5.drew.cell? ⟨sb, q, none⟩ = some (.int .i64 (s : Nat)) := by have h9 := hRF.s.cell hqp; rw [HSS.out] at h9; exact h9
      have s2 : w5.drew.cell? ⟨R, s, none⟩ = some (.slice va (wt s).length vc) := by have h9 := R2.out.l.cell (i := s) (by omega); rw [HEV.out] at h9; exact h9
      have hfw := (R2.out.f.mem fb (by obtain ⟨_, _, _, _, _, _, rfl⟩ := R2.out.f; simp)).2
      have hsw := (R2.out.f.mem sb (by obtain ⟨_, _, _, _, _, _, rfl⟩ := R2.out.f; simp)).2
      have hRw := R2.out.l.lt
      have HFF : Hid (fb ∈ F2 ∧ sb ∈ F2) := by
        obtain ⟨_, _, _, _, _, _, rfl⟩ := R2.out.f
        exact ⟨by simp, by simp⟩
      clear hRF
      refine Kg.wp_region_E (S := fun w' => w'.cell? ⟨fb, 0, none⟩ = some (.slice (some ⟨sb, 0, none⟩) p sc) ∧ w'.cell? ⟨sb, q, none⟩ = some (.int .i64 (s : Nat)) ∧ w'.cell? ⟨R, s, none⟩ = some (.slice va (wt s).length vc)) 22 Kg.mixed ⟨s0, s1, s2⟩ (fun hHeld => ?_)
      clear s0 s1 s2
      refine Kg.wpAnyE_take (i := 0) (v := (.slice (some ⟨R, 0, none⟩) p p)) (by kernel_rfl) (by decide) rfl (by kernel_rfl) (by kernel_rfl) (by kernel_rfl) (fun _ _ _ h => h) (Or.inl ⟨by rfl, fun w hSw => ?_⟩) (by assumption) ?_
      · obtain ⟨s0, s1, s2⟩ := hSw
        go_simp
      change Kg.wpAnyE _ _ _ _ _ _ _ _ (Act.put _ (some 49) (.slice (some ⟨R, 0, none⟩) p p)) _
      simp only [Act.put, List.setIfInBounds_toArray, List.set_cons_zero, List.set_cons_succ]
      refine Kg.wpAnyE_take (i := 1) (v := (.pointer (some ⟨fb, 0, none⟩))) (by kernel_rfl) (by decide) rfl (by kernel_rfl) (by kernel_rfl) (by kernel_rfl) (fun _ _ _ h => h) (Or.inl ⟨by rfl, fun w hSw => ?_⟩) (by assumption) ?_
      · obtain ⟨s0, s1, s2⟩ := hSw
        go_simp
      change Kg.wpAnyE _ _ _ _ _ _ _ _ (Act.put _ (some 50) (.pointer (some ⟨fb, 0, none⟩))) _
      simp only [Act.put, List.setIfInBounds_toArray, List.set_cons_zero, List.set_cons_succ]
      refine Kg.wpAnyE_take (i := 2) (v := (.pointer (some ⟨fb, 0, none⟩))) (by kernel_rfl) (by decide) rfl (by kernel_rfl) (by kernel_rfl) (by kernel_rfl) (fun _ _ _ h => h) (Or.inl ⟨by rfl, fun w hSw => ?_⟩) (by assumption) ?_
      · obtain ⟨s0, s1, s2⟩ := hSw
        go_simp
      change Kg.wpAnyE _ _ _ _ _ _ _ _ (Act.put _ (some 51) (.pointer (some ⟨fb, 0, none⟩))) _
      simp only [Act.put, List.setIfInBounds_toArray, List.set_cons_zero, List.set_cons_succ]
      refine Kg.wpAnyE_take (i := 3) (v := (.pointer (some ⟨fb, 0, none⟩))) (by kernel_rfl) (by decide) rfl (by kernel_rfl) (by kernel_rfl) (by kernel_rfl) (fun _ _ _ h => h) (Or.inl ⟨by rfl, fun w hSw => ?_⟩) (by assumption) ?_
      · obtain ⟨s0, s1, s2⟩ := hSw
        go_simp
      change Kg.wpAnyE _ _ _ _ _ _ _ _ (Act.put _ (some 52) (.pointer (some ⟨fb, 0, none⟩))) _
      simp only [Act.put, List.setIfInBounds_toArray, List.set_cons_zero, List.set_cons_succ]
      refine Kg.wpAnyE_take (i := 4) (v := (.slice (some ⟨sb, 0, none⟩) p sc)) (by kernel_rfl) (by decide) rfl (by kernel_rfl) (by kernel_rfl) (by kernel_rfl) (fun _ _ _ h => h) (Or.inl ⟨by rfl, fun w hSw => ?_⟩) (by assumption) ?_
      · obtain ⟨s0, s1, s2⟩ := hSw
        go_simp
      change Kg.wpAnyE _ _ _ _ _ _ _ _ (Act.put _ (some 53) (.slice (some ⟨sb, 0, none⟩) p sc)) _
      simp only [Act.put, List.setIfInBounds_toArray, List.set_cons_zero, List.set_cons_succ]
      refine Kg.wpAnyE_take (i := 5) (v := (.int .i64 (q : Nat))) (by kernel_rfl) (by decide) rfl (by kernel_rfl) (by kernel_rfl) (by kernel_rfl) (fun _ _ _ h => h) (Or.inl ⟨by rfl, fun w hSw => ?_⟩) (by assumption) ?_
      · obtain ⟨s0, s1, s2⟩ := hSw
        go_simp
      change Kg.wpAnyE _ _ _ _ _ _ _ _ (Act.put _ (some 54) (.int .i64 (q : Nat))) _
      simp only [Act.put, List.setIfInBounds_toArray, List.set_cons_zero, List.set_cons_succ]
      refine Kg.wpAnyE_take (i := 6) (v := (.pointer (some ⟨sb, q, none⟩))) (by kernel_rfl) (by decide) rfl (by kernel_rfl) (by kernel_rfl) (by kernel_rfl) (fun _ _ _ h => h) (Or.inl ⟨by rfl, fun w hSw => ?_⟩) (by assumption) ?_
      · obtain ⟨s0, s1, s2⟩ := hSw
        go_simp
      change Kg.wpAnyE _ _ _ _ _ _ _ _ (Act.put _ (some 55) (.pointer (some ⟨sb, q, none⟩))) _
      simp only [Act.put, List.setIfInBounds_toArray, List.set_cons_zero, List.set_cons_succ]
      refine Kg.wpAnyE_take (i := 7) (v := (.int .i64 (s : Nat))) (by kernel_rfl) (by decide) rfl (by kernel_rfl) (by kernel_rfl) (by kernel_rfl) (fun _ _ _ h => h) (Or.inl ⟨by rfl, fun w hSw => ?_⟩) (by assumption) ?_
      · obtain ⟨s0, s1, s2⟩ := hSw
        go_simp
      change Kg.wpAnyE _ _ _ _ _ _ _ _ (Act.put _ (some 56) (.int .i64 (s : Nat))) _
      simp only [Act.put, List.setIfInBounds_toArray, List.set_cons_zero, List.set_cons_succ]
      refine Kg.wpAnyE_take (i := 8) (v := (.slice (some ⟨R, 0, none⟩) p p)) (by kernel_rfl) (by decide) rfl (by kernel_rfl) (by kernel_rfl) (by kernel_rfl) (fun _ _ _ h => h) (Or.inl ⟨by rfl, fun w hSw => ?_⟩) (by assumption) ?_
      · obtain ⟨s0, s1, s2⟩ := hSw
        go_simp
      change Kg.wpAnyE _ _ _ _ _ _ _ _ (Act.put _ (some 57) (.slice (some ⟨R, 0, none⟩) p p)) _
      simp only [Act.put, List.setIfInBounds_toArray, List.set_cons_zero, List.set_cons_succ]
      refine Kg.wpAnyE_take (i := 9) (v := (.pointer (some ⟨fb, 0, none⟩))) (by kernel_rfl) (by decide) rfl (by kernel_rfl) (by kernel_rfl) (by kernel_rfl) (fun _ _ _ h => h) (Or.inl ⟨by rfl, fun w hSw => ?_⟩) (by assumption) ?_
      · obtain ⟨s0, s1, s2⟩ := hSw
        go_simp
      change Kg.wpAnyE _ _ _ _ _ _ _ _ (Act.put _ (some 58) (.pointer (some ⟨fb, 0, none⟩))) _
      simp only [Act.put, List.setIfInBounds_toArray, List.set_cons_zero, List.set_cons_succ]
      refine Kg.wpAnyE_take (i := 10) (v := (.pointer (some ⟨fb, 0, none⟩))) (by kernel_rfl) (by decide) rfl (by kernel_rfl) (by kernel_rfl) (by kernel_rfl) (fun _ _ _ h => h) (Or.inl ⟨by rfl, fun w hSw => ?_⟩) (by assumption) ?_
      · obtain ⟨s0, s1, s2⟩ := hSw
        go_simp
      change Kg.wpAnyE _ _ _ _ _ _ _ _ (Act.put _ (some 59) (.pointer (some ⟨fb, 0, none⟩))) _
      simp only [Act.put, List.setIfInBounds_toArray, List.set_cons_zero, List.set_cons_succ]
      refine Kg.wpAnyE_take (i := 11) (v := (.pointer (some ⟨fb, 0, none⟩))) (by kernel_rfl) (by decide) rfl (by kernel_rfl) (by kernel_rfl) (by kernel_rfl) (fun _ _ _ h => h) (Or.inl ⟨by rfl, fun w hSw => ?_⟩) (by assumption) ?_
      · obtain ⟨s0, s1, s2⟩ := hSw
        go_simp
      change Kg.wpAnyE _ _ _ _ _ _ _ _ (Act.put _ (some 60) (.pointer (some ⟨fb, 0, none⟩))) _
      simp only [Act.put, List.setIfInBounds_toArray, List.set_cons_zero, List.set_cons_succ]
      refine Kg.wpAnyE_take (i := 12) (v := (.slice (some ⟨sb, 0, none⟩) p sc)) (by kernel_rfl) (by decide) rfl (by kernel_rfl) (by kernel_rfl) (by kernel_rfl) (fun _ _ _ h => h) (Or.inl ⟨by rfl, fun w hSw => ?_⟩) (by assumption) ?_
      · obtain ⟨s0, s1, s2⟩ := hSw
        go_simp
      change Kg.wpAnyE _ _ _ _ _ _ _ _ (Act.put _ (some 61) (.slice (some ⟨sb, 0, none⟩) p sc)) _
      simp only [Act.put, List.setIfInBounds_toArray, List.set_cons_zero, List.set_cons_succ]
      refine Kg.wpAnyE_take (i := 13) (v := (.int .i64 (q : Nat))) (by kernel_rfl) (by decide) rfl (by kernel_rfl) (by kernel_rfl) (by kernel_rfl) (fun _ _ _ h => h) (Or.inl ⟨by rfl, fun w hSw => ?_⟩) (by assumption) ?_
      · obtain ⟨s0, s1, s2⟩ := hSw
        go_simp
      change Kg.wpAnyE _ _ _ _ _ _ _ _ (Act.put _ (some 62) (.int .i64 (q : Nat))) _
      simp only [Act.put, List.setIfInBounds_toArray, List.set_cons_zero, List.set_cons_succ]
      refine Kg.wpAnyE_take (i := 14) (v := (.pointer (some ⟨sb, q, none⟩))) (by kernel_rfl) (by decide) rfl (by kernel_rfl) (by kernel_rfl) (by kernel_rfl) (fun _ _ _ h => h) (Or.inl ⟨by rfl, fun w hSw => ?_⟩) (by assumption) ?_
      · obtain ⟨s0, s1, s2⟩ := hSw
        go_simp
      change Kg.wpAnyE _ _ _ _ _ _ _ _ (Act.put _ (some 63) (.pointer (some ⟨sb, q, none⟩))) _
      simp only [Act.put, List.setIfInBounds_toArray, List.set_cons_zero, List.set_cons_succ]
      refine Kg.wpAnyE_take (i := 15) (v := (.int .i64 (s : Nat))) (by kernel_rfl) (by decide) rfl (by kernel_rfl) (by kernel_rfl) (by kernel_rfl) (fun _ _ _ h => h) (Or.inl ⟨by rfl, fun w hSw => ?_⟩) (by assumption) ?_
      · obtain ⟨s0, s1, s2⟩ := hSw
        go_simp
      change Kg.wpAnyE _ _ _ _ _ _ _ _ (Act.put _ (some 64) (.int .i64 (s : Nat))) _
      simp only [Act.put, List.setIfInBounds_toArray, List.set_cons_zero, List.set_cons_succ]
      refine Kg.wpAnyE_take (i := 16) (v := (.pointer (some ⟨R, s, none⟩))) (by kernel_rfl) (by decide) rfl (by kernel_rfl) (by kernel_rfl) (by kernel_rfl) (fun _ _ _ h => h) (Or.inl ⟨by rfl, fun w hSw => ?_⟩) (by assumption) ?_
      · obtain ⟨s0, s1, s2⟩ := hSw
        go_simp
      change Kg.wpAnyE _ _ _ _ _ _ _ _ (Act.put _ (some 65) (.pointer (some ⟨R, s, none⟩))) _
      simp only [Act.put, List.setIfInBounds_toArray, List.set_cons_zero, List.set_cons_succ]
      refine Kg.wpAnyE_take (i := 17) (v := (.slice va (wt s).length vc)) (by kernel_rfl) (by decide) rfl (by kernel_rfl) (by kernel_rfl) (by kernel_rfl) (fun _ _ _ h => h) (Or.inl ⟨by rfl, fun w hSw => ?_⟩) (by assumption) ?_
      · obtain ⟨s0, s1, s2⟩ := hSw
        go_simp
      change Kg.wpAnyE _ _ _ _ _ _ _ _ (Act.put _ (some 66) (.slice va (wt s).length vc)) _
      simp only [Act.put, List.setIfInBounds_toArray, List.set_cons_zero, List.set_cons_succ]
      refine Kg.wpAnyE_take (i := 18) (v := (.int .i64 (q : Nat))) (by kernel_rfl) (by decide) rfl (by kernel_rfl) (by kernel_rfl) (by kernel_rfl) (fun _ _ _ h => h) (Or.inl ⟨by rfl, fun w hSw => ?_⟩) (by assumption) ?_
      · obtain ⟨s0, s1, s2⟩ := hSw
        go_simp
      change Kg.wpAnyE _ _ _ _ _ _ _ _ (Act.put _ (some 67) (.int .i64 (q : Nat))) _
      simp only [Act.put, List.setIfInBounds_toArray, List.set_cons_zero, List.set_cons_succ]
      have hwd : w5.drew.heap.size = w5.heap.size := rfl
      have b2 := Below.alloc (Below.refl w5.drew.heap.size w5.drew) (Nat.le_refl _) (.cells #[.int .i64 (q : Nat)] 3 (0, 0))
      have hS2 : (w5.drew.alloc (.cells #[.int .i64 (q : Nat)] 3)).cell? ⟨fb, 0, none⟩ = some (.slice (some ⟨sb, 0, none⟩) p sc) ∧ (w5.drew.alloc (.cells #[.int .i64 (q : Nat)] 3)).cell? ⟨sb, q, none⟩ = some (.int .i64 (s : Nat)) ∧ (w5.drew.alloc (.cells #[.int .i64 (q : Nat)] 3)).cell? ⟨R, s, none⟩ = some (.slice va (wt s).length vc) :=
        ⟨(b2.cell (p := ⟨fb, 0, none⟩) hfw).trans hHeld.1, (b2.cell (p := ⟨sb, q, none⟩) hsw).trans hHeld.2.1, (b2.cell (p := ⟨R, s, none⟩) hRw).trans hHeld.2.2⟩
      refine Kg.wpAnyE_one (i := 19) (by kernel_rfl) rfl (fun K hK => ?_)
      go_simp
      refine hK.out _ _ hS2 (fun hHeld2 => ?_)
      clear hK K hHeld
      have hsp : s < p := by omega
      have HRow : Hid ((w5.drew.alloc (.cells #[.int .i64 (q : Nat)] 3)).ownsRow w.heap.size 3 1 (.slice va (wt s).length vc) (wt s).length (Kg.ints ((wt s).map Int.ofNat))) := by
        have h9 := Kg.row_keep2 (G := []) (R2.out.l.l s hsp) ((Kg.Touch.drew _ w5).trans (Kg.Touch.alloc _ _ (.cells #[.int .i64 (q : Nat)] 3))) (fun _ _ => by simp)
        rw [HEV.out, List.length_map] at h9
        exact h9
      have hwsz := R2.out.bl.size
      refine Kg.wpAnyE_one (i := 20) (by kernel_rfl) rfl (fun K hK => ?_)
      refine step_append_own_at rfl (.tmp 66) (.tmp 68) 24 rfl w.heap.size 3 i0 (.int .i64 0) 1 8 Tryz.underlying24 HI.out.1 HI.out.2.1 HI.out.2.2.1 HI.out.2.2.2 rfl (by decide) (.slice va (wt s).length vc) (wt s).length (Kg.ints ((wt s).map Int.ofNat)) rfl HRow.out ⟨w5.drew.heap.size, 0, none⟩ 1 1 [.int .i64 (q : Nat)] rfl rfl (cell_one17 _ _ _) (by simp [Value.oneCell']) (by simp only [maxLen]; omega) (by omega) (by simp; omega) ?_
      intro v8 w8 h8 g8 e8
      have hQd : Ll w5.drew w.heap.size R p vs (fun i => (wt i).map Int.ofNat) := R2.out.l.keep (Kg.Touch.drew [] w5) (fun _ _ => by simp)
      obtain ⟨hp1', hp2', hp3'⟩ := hQd.push (x := (q : Nat)) (by rw [hwd]; omega) hsp (by rw [List.length_map]; exact h8) (by rw [HEV.out]; exact g8) (by rw [HEV.out]; exact e8)
      have t9 : Kg.Touch (Value.slice va (wt s).length vc).ownBlock.toList w5.drew w8 := (Kg.Touch.alloc _ _ _).trans (Kg.Touch.grown g8 (fun k hk => by rw [Option.mem_toList]; exact hk.symm ▸ rfl))
      have hown : ∀ x, x ∈ F2 → x ∉ (Value.slice va (wt s).length vc).ownBlock.toList := fun x hx hm => by
        rw [Option.mem_toList] at hm
        exact R2.out.d x hx (mem_llF.2 (.inr ⟨s, hsp, by rw [HEV.out]; exact hm⟩))
      have hS3 : w8.cell? ⟨fb, 0, none⟩ = some (.slice (some ⟨sb, 0, none⟩) p sc) ∧ w8.cell? ⟨sb, q, none⟩ = some (.int .i64 (s : Nat)) ∧ w8.cell? ⟨R, s, none⟩ = some (.slice va (wt s).length vc) :=
        ⟨(touch_cell t9 hfw (hown fb HFF.out.1) 0).trans ((b2.cell (p := ⟨fb, 0, none⟩) hfw).symm.trans hHeld2.1), (touch_cell t9 hsw (hown sb HFF.out.2) q).trans ((b2.cell (p := ⟨sb, q, none⟩) hsw).symm.trans hHeld2.2.1), by rw [← HEV.out]; exact hp2'⟩
      have HPN : Hid _ := hp1'.out
      obtain ⟨a8, c8, ev8⟩ := own_sl17 h8
      subst ev8
      refine hK.out _ _ hS3 (fun hHeld3 => ?_)
      clear hK K hHeld2 hS2 hp1' hp2' h8 g8 e8 hQd HRow t9
      change Kg.wpAnyE _ _ _ _ _ _ _ _ (Act.put _ (some 69) (.slice a8 ((wt s).length + 1) c8)) _
      simp only [Act.put, List.setIfInBounds_toArray, List.set_cons_zero, List.set_cons_succ]
      refine Kg.wpAnyE_take (i := 21) (v := (.pointer (some ⟨R, s, none⟩))) (by kernel_rfl) (by decide) rfl (by kernel_rfl) (by kernel_rfl) (by kernel_rfl) (fun _ _ _ h => h) (Or.inl ⟨by rfl, fun w hSw => ?_⟩) (by assumption) ?_
      · obtain ⟨s0, s1, s2⟩ := hSw
        go_simp
      change Kg.wpAnyE _ _ _ _ _ _ _ _ (Act.put _ (some 70) (.pointer (some ⟨R, s, none⟩))) _
      simp only [Act.put, List.setIfInBounds_toArray, List.set_cons_zero, List.set_cons_succ]
      refine Kg.wpAnyE_last (by kernel_rfl) (by kernel_rfl) rfl (fun K hK => ?_)
      have s2 := hHeld3.2.2
      clear hHeld3 hS3
      go_simp
      refine hK.out _ _ ?_
      clear hK K
      obtain ⟨wt1, hwt1⟩ : ∃ wt1 : Nat → List Nat, wt1 = fun x => if x = s then wt x ++ [q] else wt x := ⟨_, rfl⟩
      have HW1 : Hid (wt1 = fun x => if x = s then wt x ++ [q] else wt x) := hwt1
      have HZ9 : Hid (∃ vs1, Rn par p (q + 1) (sat σ q s) w (w8.setCell ⟨R, s, none⟩ (.slice a8 ((wt s).length + 1) c8)) fb sb ab bb sc ac bc tb R wt1 tg vs1 F2) := by
        obtain ⟨f1, f2, f3⟩ := HPN.out
        refine ⟨_, R2.out.wait (vs2 := fun j => if j = s then .slice a8 ((wt s).length + 1) c8 else vs j) ?_ ((Kg.Touch.drew _ w5).trans f2) f3⟩
        have e9 : (fun i => (wt1 i).map Int.ofNat) = fun j => if j = s then (wt s).map Int.ofNat ++ [(q : Int)] else (wt j).map Int.ofNat := by
          funext y
          rw [hwt1]
          show (if y = s then wt y ++ [q] else wt y).map Int.ofNat = _
          by_cases e : y = s
          · rw [if_pos e, if_pos e, List.map_append, e]
            rfl
          · rw [if_neg e, if_neg e]
        rw [e9]
        exact f1
      clear HPN s2 hp3' R2 b2 hwd hown hfw hsw hRw hwt1 HEV HFF hwl hwsz
      generalize w8.setCell ⟨R, s, none⟩ (.slice a8 ((wt s).length + 1) c8) = w9 at *
      obtain ⟨vs1, r9⟩ := HZ9.out
      have R3 : Hid (Rn par p (q + 1) (sat σ q s) w w9 fb sb ab bb sc ac bc tb R wt1 tg vs1 F2) := r9
      clear HZ9 r9
      obtain ⟨-, x2, -⟩ := HX.out w9 R3.out.bl
      obtain ⟨ga, off, rfl, cpar⟩ := HY.out w9 R3.out.bl q hqp
      have hpq : par q < q := HDt.out.pl q hq0 hqp
      have hpp : par q < p := by omega
      have hppI : (par q : Int) < (p : Int) := by omega
      obtain ⟨tvF', lF', faF', bsF', hRF, -, -⟩ := id R3.out.f
      have y1 := hRF.cells.2.1
      have zab := hRF.a.frozen q
      have cab := hRF.a.cell hqp
      clear hRF
      have R4 : Hid (Rn par p q (sat σ q s) w (w9.setCell ⟨ab, q, none⟩ (.int .i64 (par q : Nat))) fb sb ab bb sc ac bc tb R wt1 tg vs1 F2) := R3.out.link HDt.out hq0 hqp
      go_upto_region 11 with fail
      clear y1 zab cab cpar x2 R3
      generalize w9.setCell ⟨ab, q, none⟩ (.int .i64 (par q : Nat)) = w10 at *
      obtain ⟨l, hl⟩ : ∃ l, l = wt1 (par q) := ⟨_, rfl⟩
      have HLw : Hid (l = if par q = s then wt (par q) ++ [q] else wt (par q)) := by show _ = _; rw [hl, HW1.out]
      have HLl : Hid (l = wt1 (par q)) := hl
      obtain ⟨la, lc, el⟩ := own_sl17 (R4.out.l.l (par q) hpp)
      rw [List.length_map, ← hl] at el
      have HEL : Hid (vs1 (par q) = .slice la l.length lc) := el
      have cR := R4.out.l.cell hpp
      rw [el] at cR
      clear el hl
      have hll : l.length ≤ 2000001 := by
        have h1 := HWL.out (par q)
        rw [HLw.out]
        split
        · rw [List.length_append, List.length_cons, List.length_nil]
          omega
        · omega
      go_wp2
      clear cR
      go_loopw [9, 90] (fun _ v90 wr => ∃ (j : Nat) (tg1 : Nat → Nat) (F3 : List Nat), v90 = .int .i64 (j : Nat) ∧ j ≤ l.length ∧ Hid (Rn par p q (sat σ q s) w wr fb sb ab bb sc ac bc tb R wt1 tg1 vs1 F3) ∧ Hid (Tld par (sat σ q s) l j tg tg1)) (fun _ v90 _ => l.length - (intOf v90).toNat)
      case atStart => exact ⟨0, tg, F2, rfl, Nat.zero_le _, R4, Tld.start⟩
      case round =>
        obtain ⟨j, tg1, F3, rfl, hj, Q1, Q2⟩ := hrel
        by_cases hjl : j < l.length
        · have hji : (j : Int) < (l.length : Int) := by omega
          obtain ⟨o, ho⟩ : ∃ o, l[j]? = some o := ⟨_, List.getElem?_eq_getElem hjl⟩
          have HO : Hid (l[j]? = some o) := ho
          obtain ⟨o1, o2, o3, o4⟩ := HDt.out.ma_wait M1.out hq0 hqp HSq.out (o := o) (by rw [← HLw.out]; exact List.mem_of_getElem? ho)
          have HO3 : Hid (sat σ q s o = par q ∧ Anc par q o) := ⟨o3, o4⟩
          have hrow := Q1.out.l.l (par q) hpp
          rw [HEL.out, ← HLl.out] at hrow
          obtain ⟨oa, oc, eo, -, hoc⟩ := row_at (Kg.row_base hrow (Nat.zero_le _)) (by decide)
          obtain ⟨ob, eob, -, co⟩ := hoc j (.int .i64 (o : Nat)) (by rw [Kg.ints, List.getElem?_map, List.getElem?_map, ho]; rfl)
          simp only [Value.slice.injEq, List.length_map, true_and] at eo
          obtain ⟨rfl, rfl⟩ := eo
          subst eob
          have qg := guess_any HDt.out hp2 o o1 o2 wr F3 Q1.out.f Q1.out.bl.size
          have hoI : (o : Int) < (p : Int) := by omega
          clear hoc hrow ho o3 o4
          go_wp2_with fail
          refine qg.mono ?_
          rintro e w11 ⟨u, u1, u2, u3, rfl, F4, g1, g2, g3⟩
          obtain ⟨gv, hgv⟩ : ∃ gv, gv = (if sat σ q s u < sat σ q s o then u else sat σ q s o) := ⟨_, rfl⟩
          have HG : Hid (Gs par (sat σ q s) o gv) := by
            show Gs _ _ _ _
            rw [hgv]
            exact HDt.out.ma_guess hq0 hqp o1 o2 HO3.out.1 HO3.out.2 u1 u2 u3
          rw [← hgv]
          have Q3 : Hid (Rn par p q (sat σ q s) w w11 fb sb ab bb sc ac bc tb R wt1 tg1 vs1 F4) := Q1.out.forest g1 g2 g3
          have zt := Q3.out.t.frozen o
          have ct := Q3.out.t.cell o2
          have Q4 : Hid (Rn par p q (sat σ q s) w (w11.setCell ⟨tb, o, none⟩ (.int .i64 (gv : Nat))) fb sb ab bb sc ac bc tb R wt1 (fun y => if y = o then gv else tg1 y) vs1 F4) := Q3.out.tell o2 gv
          have Q5 : Hid (Tld par (sat σ q s) l (j + 1) tg (fun y => if y = o then gv else tg1 y)) := Q2.out.step HO.out HG.out
          clear qg g1 g2 g3 u1 u2 u3 hgv Q1 Q2 Q3 co o1
          go_wp2
          go_roundw
          case rel => exact ⟨j + 1, _, F4, by simp, by omega, Q4, Q5⟩
          case measure => simp [intOf]; omega
        · have hji : ¬ (j : Int) < (l.length : Int) := by omega
          have e9 : l.take j = l := List.take_of_length_le (by omega)
          have HM2 : Hid (Ma (Ed W ord) par p q (sat σ q s) (fun x => if x = par q then [] else wt1 x) tg1) := by
            have h9 := HDt.out.ma_step M1.out hq0 hqp HSq.out (tg' := tg1) (fun o ho => Q2.out.g o (by rw [e9, HLw.out]; exact ho)) (fun o ho => Q2.out.n o (by rw [HLw.out]; exact ho))
            show Ma _ _ _ _ _ _ _
            rw [HW1.out]
            exact h9
          obtain ⟨hput, cR, zR⟩ := Q1.out.l.put (i := par q) hpp (v8 := .slice none 0 0) (l8 := []) (Kg.Touch.refl _ wr) (World.ownsRow_nil _ _ _ _) (fun k hk => by simp [Value.ownBlock] at hk)
          have HRN : Hid (Rn par p q (sat σ q s) w (wr.setCell ⟨R, par q, none⟩ (.slice none 0 0)) fb sb ab bb sc ac bc tb R (fun x => if x = par q then [] else wt1 x) tg1 (fun y => if y = par q then .slice none 0 0 else vs1 y) F3) := by
            obtain ⟨f1, f2, f3⟩ := hput.out
            refine Q1.out.wait ?_ f2 f3
            have e9 : (fun i => (if i = par q then [] else wt1 i).map Int.ofNat) = fun j => if j = par q then [] else (wt1 j).map Int.ofNat := by
              funext y
              by_cases e : y = par q
              · rw [if_pos e, if_pos e]; rfl
              · rw [if_neg e, if_neg e]
            rw [e9]
            exact f1
          clear hput Q1 Q2 M1
          go_wp2
          go_roundw
          case rel =>
            refine ⟨q - 1, sat σ q s, fun x => if x = par q then [] else wt1 x, tg1, fun y => if y = par q then .slice none 0 0 else vs1 y, F3, ?_, by omega, ?_, ?_⟩
            · go_num
            · rw [Nat.sub_add_cancel (by omega)]; exact HRN
            · rw [Nat.sub_add_cancel (by omega)]; exact HM2
          case measure => simp [intOf]; omega
end Go.Proofs.YtkekaifiahjljaaGreatDoor
