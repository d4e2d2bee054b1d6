import Derived.Test.YtkekaifiahjljaaGreatDoorC16
import Derived.Test.YtkekaifiahjljaaGreatDoorC17
import Derived.Test.YtkekaifiahjljaaGreatDoorC30
set_option linter.unusedVariables false
set_option maxHeartbeats 8000000
set_option maxRecDepth 20000
namespace Go.Proofs.YtkekaifiahjljaaGreatDoor
open Go.RowKit Go.Shelf Go.Proofs.YtkekaifiahjljaaGreatDoor.Lp
def Lst (P : Nat → Prop) (j : Nat) : Prop := P j ∧ ∀ i, P i → j ≤ i
theorem Lst.ex {P : Nat → Prop} (h : ∃ j, P j) : ∃ j, Lst P j := by
  obtain ⟨j, hj⟩ := h
  induction j using Nat.strongRecOn with
  | _ j ih =>
    by_cases e : ∃ i, i < j ∧ P i
    · obtain ⟨i, h1, h2⟩ := e
      exact ih i h1 h2
    · exact ⟨j, hj, fun i hi => Nat.le_of_not_lt fun hl => e ⟨i, hl, hi⟩⟩
theorem eps_spec {P : Nat → Prop} (h : ∃ j, P j) : P (Classical.epsilon (Lst P)) := (Classical.epsilon_spec (Lst.ex h)).1
theorem eps_le {P : Nat → Prop} {j : Nat} (h : P j) : Classical.epsilon (Lst P) ≤ j := (Classical.epsilon_spec (Lst.ex ⟨j, h⟩)).2 j h
def Ss (g : Im.Gr) (w : World) (B bb qb m j nv : Nat) (ok : Bool) (wr : World) : Prop :=
  ∃ (seq : List Nat) (k : Nat) (by' dep pos : Nat → Nat) (F : List Nat), Bt (wy17 g) seq k by' dep pos ∧ (∀ y, y ∈ seq → y < m) ∧ Fz wr bb m (byv seq by') ∧ Kg.Que wr B qb 0 seq.length ((seq.drop (k + 1)).map Int.ofNat) F ∧
    (ok = true → seq[k]? = some nv ∧ j = m + 1 - k) ∧ (ok = false → k = seq.length ∧ j = 0) ∧ Below w.heap.size w wr ∧ B ≤ wr.heap.size
theorem que_more {W : World} {base b N N' : Nat} {m : Int} {xs : List Int} {F : List Nat} (h : Kg.Que W base b m N xs F) (hN : N ≤ N') : Kg.Que W base b m N' xs F := by
  obtain ⟨v, ts, f, h1, h2, h3, h4, h5, h6, h7⟩ := h
  exact ⟨v, ts, f, h1, h2, h3, h4, h5, Nat.le_trans h6 hN, h7⟩
def SsM (g : Im.Gr) (w : World) (B bb qb m : Nat) (v8 v9 : Value) (wr : World) (j : Nat) : Prop := ∃ (nv : Nat) (ok : Bool), v8 = .int .i64 (nv : Nat) ∧ v9 = .bool ok ∧ nv < m ∧ Ss g w B bb qb m j nv ok wr
theorem shortest_any (w : World) (g : Im.Gr) (hm : MB g) (m : Nat) (hmm : m = g.obs.length + 1) (hm2 : m ≤ 2000000) (n1 : Nat) (v : Value) (rs : List Value) (hrs : w.ownsRow n1 24 1 v m rs) (hW : Wrd w.heap.size w g rs) (hrl : ∀ i, (rw17 g i).length ≤ 1000000000) (t : Nat) (ht1 : 1 ≤ t) (ht2 : t < m) :
    Calls Tryz.prog 26 #[v, .int .i64 (t : Nat)] w fun e w' => ∃ (v' : Value) (l : List Nat), e = .returned v' ∧ Il w' w.heap.size v' (l.map Int.ofNat) ∧ Below w.heap.size w w' ∧ Row17 (wy17 g) t l := by
  obtain ⟨wa, wc, ew, -, hwc⟩ := row_at (Kg.row_base hrs (Nat.zero_le _)) (by decide)
  subst ew
  have hrl9 : rs.length = m := by have := hrs.1; omega
  have HWY : Hid (∀ w', Below w.heap.size w w' → ∀ (i : Nat), i < m → ∃ q u, wa = some ⟨q, 0, none⟩ ∧ w'.cell? ⟨q, i, none⟩ = some u ∧ Lrd w.heap.size w' u .i64 (rw17 g i)) := fun w' b' i hi => by
    obtain ⟨u, hu⟩ : ∃ u, rs[i]? = some u := ⟨_, List.getElem?_eq_getElem (by omega)⟩
    obtain ⟨q, h1, h2, h3⟩ := hwc i u hu
    exact ⟨q, u, h1, (b'.cell (p := ⟨q, i, none⟩) h2).trans h3, (hW i u hu).below b'⟩
  have HM : Hid (MB g) := hm
  have Hmm : Hid (m = g.obs.length + 1) := hmm
  have HRL : Hid (∀ i, (rw17 g i).length ≤ 1000000000) := hrl
  have q := nobodies_any m w (by omega) hm2
  clear hrs hW hwc hm hrl hmm hrl9
  go_enter Tryz.func26, Tryz.ntmps26
  go_wp2_with fail
  refine q.mono ?_
  rintro e w1 ⟨bb, rfl, hbb, f1, b1⟩
  have HF1 : Hid (Fz w1 bb m (fun _ => -1)) := f1
  have HB1 : Hid (Below w.heap.size w w1) := b1
  have c0 := f1.cell (x := 0) (by omega)
  have z0 := f1.frozen 0
  have hm0 : 0 < m := by omega
  have hm0I : (0 : Int) < (m : Int) := by omega
  clear q f1 b1
  go_upto_region 3 with fail
  have F2 := HF1.out.set hm0 0
  have B2 : Below w.heap.size w (w1.setCell ⟨bb, 0, none⟩ (.int .i64 0)) := Below.setCell (p := ⟨bb, 0, none⟩) HB1.out hbb _
  generalize w1.setCell ⟨bb, 0, none⟩ (.int .i64 0) = w2 at *
  have F2' : Fz w2 bb m (byv [0] (fun _ => 0)) := F2.congr (fun x _ => by
    unfold byv
    by_cases e : x = 0
    · simp [e]
    · simp [e])
  have HF2 : Hid (Fz w2 bb m (byv [0] (fun _ => 0))) := F2'
  have HB2 : Hid (Below w.heap.size w w2) := B2
  obtain ⟨B, hB⟩ : ∃ B, B = w2.heap.size := ⟨_, rfl⟩
  have q := Kg.newintqueue_any 0 (Int.le_refl _) w2
  rw [← hB] at q
  have HBB : Hid (bb < B ∧ w.heap.size ≤ B) := ⟨by rw [hB]; exact F2'.lt, by rw [hB]; exact B2.size⟩
  clear F2 F2' B2 c0 z0 HF1 HB1 hm0 hm0I
  go_wp2_with fail
  refine q.mono ?_
  rintro e w3 ⟨rfl, q3, t3, s3⟩
  have HF3 : Hid (Fz w3 bb m (byv [0] (fun _ => 0))) := HF2.out.touch t3 (by simp)
  have HB3 : Hid (Below w.heap.size w w3) := HB2.out.trans (t3.below HB2.out.size (fun k hk => by simp at hk))
  have HQ3 : Hid (Kg.Que w3 B B 0 1 [] [B]) := que_more q3 (by omega)
  have HS3 : Hid (B ≤ w3.heap.size) := by show _ ≤ _; rw [hB, s3, ← hB]; omega
  clear q q3 t3 s3 HF2 HB2 hB
  go_wp2
  go_loopw [8, 9, 11] (fun v8 v9 _ wr => ∃ j, SsM g w B bb B m v8 v9 wr j) (fun v8 v9 _ wr => Classical.epsilon (Lst (SsM g w B bb B m v8 v9 wr)))
  case atStart =>
    refine ⟨m + 1, 0, true, rfl, rfl, by omega, [0], 0, _, _, _, [B], Bt.start (fun x y hy => by have := wy_in HM.out x y hy; omega), fun y hy => by simp at hy; omega, HF3.out, HQ3.out, fun _ => ⟨rfl, rfl⟩, fun h => (by cases h), HB3.out, HS3.out⟩
  case round =>
    obtain ⟨j0, hj0⟩ : ∃ j0, j0 = Classical.epsilon (Lst (SsM g w B bb B m u8 u9 wr)) := ⟨_, rfl⟩
    have h9 := eps_spec hrel
    rw [← hj0] at h9
    have HJ : Hid (j0 = Classical.epsilon (Lst (SsM g w B bb B m u8 u9 wr))) := hj0
    clear hj0 hrel
    obtain ⟨nv, ok, rfl, rfl, hnv, seq, k, by', dep, pos, F, g1, g2, g3, g4, g5, g6, g7, g8⟩ := h9
    have G1 : Hid (Bt (wy17 g) seq k by' dep pos) := g1
    have G2 : Hid (∀ y, y ∈ seq → y < m) := g2
    have G3 : Hid (Fz wr bb m (byv seq by')) := g3
    have G4 : Hid (Kg.Que wr B B 0 seq.length ((seq.drop (k + 1)).map Int.ofNat) F) := g4
    have G5 : Hid (ok = true → seq[k]? = some nv ∧ j0 = m + 1 - k) := g5
    have G6 : Hid (ok = false → k = seq.length ∧ j0 = 0) := g6
    have G7 : Hid (Below w.heap.size w wr) := g7
    have G8 : Hid (B ≤ wr.heap.size) := g8
    have cx := g3.cell ht2
    have htI : (t : Int) < (m : Int) := by omega
    have q := listTo_any wr bb m hm2 g3 g1 g2 t ht2
    clear g1 g2 g3 g4 g5 g6 g7 g8
    have HFin : Hid (t ∈ seq ∨ k = seq.length → ∀ l, (t ∈ seq → Chn by' t l) → (t ∉ seq → l = []) → Row17 (wy17 g) t l) := fun h l h1 h2 => by
      by_cases e : t ∈ seq
      · have h3 := G1.out.tells e (by omega) (h1 e)
        exact .inr ⟨h3.ne (by omega), h3⟩
      · have hk : k = seq.length := by
          rcases h with h | h
          · exact absurd h e
          · exact h
        have G := G1.out
        rw [hk] at G
        exact .inl ⟨h2 e, fun e' hp => e (G.whole e' 0 G.m0 hp)⟩
    by_cases hend : ok = false ∨ t ∈ seq
    · have HE : Hid (t ∈ seq ∨ k = seq.length) := by
        show _ ∨ _
        rcases hend with h | h
        · exact .inr (G6.out h).1
        · exact .inl h
      have hg : ok = false ∨ byv seq by' t ≠ -1 := by
        rcases hend with h | h
        · exact .inl h
        · exact .inr (fun e => byv_neg.1 e h)
      generalize byv seq by' t = z at *
      have HQ : Hid (Calls Tryz.prog 56 #[.slice (some ⟨bb, 0, none⟩) m m, .int .i64 (t : Nat)] wr fun e w' => ∃ (v : Value) (l : List Nat), e = .returned v ∧ Il w' wr.heap.size v (l.map Int.ofNat) ∧ Below wr.heap.size wr w' ∧ (t ∈ seq → Chn by' t l) ∧ (t ∉ seq → l = [])) := q
      clear q hend
      rcases hg with rfl | hz
      · go_wp2_with fail
        refine HQ.out.mono ?_
        rintro e w' ⟨vl, l, rfl, o1, o2, o3, o4⟩
        have HR : Hid (Il w' w.heap.size vl (l.map Int.ofNat) ∧ Below w.heap.size w w' ∧ Row17 (wy17 g) t l) := ⟨Kg.row_base o1 G7.out.size, G7.out.trans (o2.mono G7.out.size), HFin.out HE.out l o3 o4⟩
        obtain ⟨al, cl, rfl⟩ := own_sl17 o1
        have HR1 : Hid (Il w' w.heap.size (.slice al l.length cl) (l.map Int.ofNat)) := by have h9 := HR.out.1; rw [List.length_map] at h9; exact h9
        rw [List.length_map]
        clear o1 o2 o3 o4
        go_wp2
        go_ret
        exact ⟨_, l, rfl, HR1.out, HR.out.2.1, HR.out.2.2⟩
      · have hz' : (z == -1) = false := beq_eq_false_iff_ne.2 hz
        cases ok with
        | false =>
          go_wp2_with fail
          refine HQ.out.mono ?_
          rintro e w' ⟨vl, l, rfl, o1, o2, o3, o4⟩
          have HR : Hid (Il w' w.heap.size vl (l.map Int.ofNat) ∧ Below w.heap.size w w' ∧ Row17 (wy17 g) t l) := ⟨Kg.row_base o1 G7.out.size, G7.out.trans (o2.mono G7.out.size), HFin.out HE.out l o3 o4⟩
          obtain ⟨al, cl, rfl⟩ := own_sl17 o1
          have HR1 : Hid (Il w' w.heap.size (.slice al l.length cl) (l.map Int.ofNat)) := by have h9 := HR.out.1; rw [List.length_map] at h9; exact h9
          rw [List.length_map]
          clear o1 o2 o3 o4
          go_wp2
          go_ret
          exact ⟨_, l, rfl, HR1.out, HR.out.2.1, HR.out.2.2⟩
        | true =>
          go_wp2_with fail
          refine HQ.out.mono ?_
          rintro e w' ⟨vl, l, rfl, o1, o2, o3, o4⟩
          have HR : Hid (Il w' w.heap.size vl (l.map Int.ofNat) ∧ Below w.heap.size w w' ∧ Row17 (wy17 g) t l) := ⟨Kg.row_base o1 G7.out.size, G7.out.trans (o2.mono G7.out.size), HFin.out HE.out l o3 o4⟩
          obtain ⟨al, cl, rfl⟩ := own_sl17 o1
          have HR1 : Hid (Il w' w.heap.size (.slice al l.length cl) (l.map Int.ofNat)) := by have h9 := HR.out.1; rw [List.length_map] at h9; exact h9
          rw [List.length_map]
          clear o1 o2 o3 o4
          go_wp2
          go_ret
          exact ⟨_, l, rfl, HR1.out, HR.out.2.1, HR.out.2.2⟩
    · have hok : ok = true := by
        cases ok with
        | false => exact absurd (.inl rfl) hend
        | true => rfl
      subst hok
      have hts : t ∉ seq := fun h => hend (.inr h)
      rw [byv_neg.2 hts] at cx
      obtain ⟨hsk, hj⟩ := G5.out rfl
      have HSK : Hid (seq[k]? = some nv) := hsk
      have HJ2 : Hid (j0 = m + 1 - k) := hj
      obtain ⟨qw, u, ewa, cu, lu⟩ := HWY.out wr G7.out nv hnv
      obtain ⟨ua, uc, eu, -⟩ := id lu
      subst eu ewa
      have hnvI : (nv : Int) < (m : Int) := by omega
      have qs := sortedV_any w.heap.size _ (rw17 g nv) wr lu G7.out.size (HRL.out nv)
      clear q hend hts hsk hj G5 G6 HFin lu
      go_wp2_with fail
      refine (Kg.valuesI_any _ _ _ _).mono ?_
      rintro e w' ⟨rfl, rfl⟩
      go_wp2_with fail
      refine qs.mono ?_
      rintro e wS ⟨vS, rfl, rS, bS⟩
      obtain ⟨L, hL⟩ : ∃ L, L = ((rw17 g nv).mergeSort (fun x y => decide (x ≤ y))).map Int.toNat := ⟨_, rfl⟩
      have hS : (rw17 g nv).mergeSort (fun x y => decide (x ≤ y)) = L.map Int.ofNat := by
        rw [hL]
        exact toNat_back _ (fun z hz => (rw_in HM.out nv z (List.mem_mergeSort.1 hz)).1)
      have HLm : Hid (∀ y, y ∈ L → y < m) := fun y hy => by
        have h1 : (Int.ofNat y) ∈ (rw17 g nv).mergeSort (fun x y => decide (x ≤ y)) := by rw [hS]; exact List.mem_map_of_mem hy
        have h2 := (rw_in HM.out nv _ (List.mem_mergeSort.1 h1)).2
        have h3 := Hmm.out
        rw [Int.ofNat_eq_natCast] at h2
        omega
      have HLw : Hid (∀ y, y ∈ wy17 g nv ↔ y ∈ L ∧ y ≠ 0) := fun y => by
        rw [wy_rw HM.out nv y]
        have h1 : (y : Int) ∈ rw17 g nv ↔ y ∈ L := by
          rw [← List.mem_mergeSort (le := fun x y => decide (x ≤ y)), hS, List.mem_map]
          constructor
          · rintro ⟨x, hx, e⟩
            have : x = y := Int.ofNat.inj e
            rwa [← this]
          · intro hy; exact ⟨y, hy, rfl⟩
        rw [h1]
      have HLp : Hid (L.Pairwise (· ≤ ·)) := by
        have h1 := List.pairwise_mergeSort (le := fun (x y : Int) => decide (x ≤ y)) (fun a b c h1 h2 => by simp at h1 h2 ⊢; omega) (fun a b => by simp; omega) (rw17 g nv)
        rw [hS, List.pairwise_map] at h1
        exact h1.imp (fun h => by have h2 := of_decide_eq_true h; rw [Int.ofNat_eq_natCast, Int.ofNat_eq_natCast] at h2; omega)
      have HLl : Hid (L.length ≤ 1000000000) := by
        show _ ≤ _
        rw [hL, List.length_map, List.length_mergeSort]
        exact HRL.out nv
      rw [hS] at rS
      have b9 : Below wr.heap.size wr wS := (Below.alloc (Below.refl _ _) (Nat.le_refl _) _).trans (bS.mono (by omega))
      have T9 : Kg.Touch [] wr wS := Kg.Touch.of_below b9 []
      have S3 : Hid (Fz wS bb m (byv seq by')) := G3.out.touch T9 (by simp)
      have S4 : Hid (Kg.Que wS B B 0 seq.length ((seq.drop (k + 1)).map Int.ofNat) F) := G4.out.keep T9 (fun x _ h => by simp at h)
      have S7 : Hid (Below w.heap.size w wS) := G7.out.trans (b9.mono G7.out.size)
      have S8 : Hid (B ≤ wS.heap.size) := Nat.le_trans G8.out b9.size
      have HFk : Hid (∀ x, x ∈ F → B ≤ x ∧ x < wr.heap.size) := G4.out.mem
      have HLC : Hid (∀ w', Kg.Touch (bb :: F) wS w' → ∃ a cap, vS = .slice a L.length cap ∧ ∀ (f : Nat) z, L[f]? = some z → ∃ q, a = some ⟨q, 0, none⟩ ∧ w'.cell? ⟨q, f, none⟩ = some (.int .i64 (z : Nat))) := fun w' ht => by
        obtain ⟨a, cap, h1, h2⟩ := Il.at_ rS ht (fun x hx => by
          rcases List.mem_cons.1 hx with rfl | hx
          · have := HBB.out.1; have := G8.out; omega
          · have := (HFk.out x hx).2; omega)
        rw [List.length_map] at h1
        refine ⟨a, cap, h1, fun f z hz => ?_⟩
        obtain ⟨q, h3, -, -, h4⟩ := h2 f (z : Int) (by rw [List.getElem?_map, hz]; rfl)
        exact ⟨q, h3, h4⟩
      obtain ⟨aS, cS, rfl, -⟩ := HLC.out wS (Kg.Touch.refl _ _)
      have HLa : Hid (∀ w', Kg.Touch (bb :: F) wS w' → ∀ (f : Nat) z, L[f]? = some z → ∃ q, aS = some ⟨q, 0, none⟩ ∧ w'.cell? ⟨q, f, none⟩ = some (.int .i64 (z : Nat))) := fun w' ht f z hz => by
        obtain ⟨a, cap, e1, h2⟩ := HLC.out w' ht
        simp only [Value.slice.injEq] at e1
        obtain ⟨rfl, -, -⟩ := e1
        exact h2 f z hz
      have HKl : Hid (k + 1 ≤ seq.length) := (List.getElem?_eq_some_iff.1 HSK.out).1
      have HSl : Hid (seq.length ≤ m) := G1.out.len G2.out
      clear HLC qs rS bS b9 T9 G3 G4 G7 G8 hS hL cu cx
      go_wp2
      go_loopw [41, 11] (fun v41 _ wq => ∃ (i : Nat) (new F' : List Nat), i ≤ L.length ∧ v41 = .int .i64 (i : Nat) ∧ Hid (NW seq (L.take i) new) ∧ Hid (Fz wq bb m (byn seq new by' nv)) ∧ Hid (Kg.Que wq B B 0 (seq.length + new.length) (((seq ++ new).drop (k + 1)).map Int.ofNat) F') ∧ Hid (Kg.Newer wS.heap.size F F') ∧ Hid (Kg.Touch (bb :: F) wS wq)) (fun v41 _ _ => L.length - (intOf v41).toNat)
      case atStart =>
        refine ⟨0, [], F, Nat.zero_le _, rfl, NW.nil seq, ?_, ?_, Kg.Newer.refl _ _, Kg.Touch.refl _ _⟩
        · show Fz _ _ _ _
          rw [byn_nil]
          exact S3.out
        · show Kg.Que _ _ _ _ _ _ _
          rw [List.append_nil]
          exact S4.out
      case round =>
        obtain ⟨i, new, F', hi, rfl, R1, R2, R3, R4, R5⟩ := hrel
        have HbF : Hid (bb ∉ F') := fun h => by have := (R3.out.mem bb h).1; have := HBB.out.1; omega
        by_cases hil : i < L.length
        · have hiI : (i : Int) < (L.length : Int) := by omega
          have hL9 : L.length ≤ 1000000000 := HLl.out
          obtain ⟨x, hx⟩ : ∃ x, L[i]? = some x := ⟨_, List.getElem?_eq_getElem hil⟩
          obtain ⟨q, rfl, cy⟩ := HLa.out wr R5.out i x hx
          have hxm := HLm.out x (List.mem_of_getElem? hx)
          have HT : Hid (L.take (i + 1) = L.take i ++ [x]) := by show _ = _; rw [List.take_add_one, hx]; rfl
          have hxmI : (x : Int) < (m : Int) := by omega
          have cx := R2.out.cell hxm
          have zx := R2.out.frozen x
          have HLe : Hid (∀ y, y ∈ L.take i → y ≤ x) := fun y hy => by
            obtain ⟨f, hf⟩ := List.getElem?_of_mem hy
            rw [List.getElem?_take] at hf
            split at hf
            · obtain ⟨hfl, hfv⟩ := List.getElem?_eq_some_iff.1 hf
              obtain ⟨hxl, hxv⟩ := List.getElem?_eq_some_iff.1 hx
              rw [← hfv, ← hxv]
              exact List.pairwise_iff_getElem.1 HLp.out f i hfl hxl (by omega)
            · cases hf
          clear hx
          by_cases hne : byn seq new by' nv x = -1
          · obtain ⟨hn1, hn2⟩ := byn_neg.1 hne
            rw [hne] at cx
            have HNW : Hid (NW seq (L.take (i + 1)) (new ++ [x])) := by
              show NW _ _ _
              rw [HT.out]
              exact R1.out.add hn1 hn2 HLe.out
            have W3 : Hid (Fz (wr.setCell ⟨bb, x, none⟩ (.int .i64 (nv : Nat))) bb m (byn seq (new ++ [x]) by' nv)) := by
              have h9 := R2.out.set hxm (nv : Int)
              rw [byn_add] at h9
              exact h9
            have wt : Kg.Touch [bb] wr (wr.setCell ⟨bb, x, none⟩ (.int .i64 (nv : Nat))) := Kg.Touch.setCell _ _ _ (by simp)
            have W4 : Hid (Kg.Que (wr.setCell ⟨bb, x, none⟩ (.int .i64 (nv : Nat))) B B 0 (seq.length + new.length) (((seq ++ new).drop (k + 1)).map Int.ofNat) F') := R3.out.keep wt (fun y hy h => by rw [List.mem_singleton] at h; rw [h] at hy; exact HbF.out hy)
            have W5 : Hid (Kg.Touch (bb :: F) wS (wr.setCell ⟨bb, x, none⟩ (.int .i64 (nv : Nat)))) := R5.out.then wt (fun y hy => by rw [List.mem_singleton] at hy; exact .inl (by rw [hy]; simp))
            have hnl : new.length ≤ m := by
              have h1 : new.Nodup := R1.out.pw.imp (fun h => Nat.ne_of_lt h)
              have h2 := nodup_len new (List.range m) h1 (fun y hy => List.mem_range.2 (HLm.out y (List.mem_of_mem_take ((R1.out.mem y).1 hy).1)))
              rwa [List.length_range] at h2
            have hN : seq.length + new.length < 8796093022208 := by have := HSl.out; omega
            have hsz : B ≤ (wr.setCell ⟨bb, x, none⟩ (.int .i64 (nv : Nat))).heap.size := Nat.le_trans S8.out W5.out.size
            have HQl : Hid (((seq ++ new).drop (k + 1)).map Int.ofNat ++ [(x : Int)] = ((seq ++ (new ++ [x])).drop (k + 1)).map Int.ofNat) := by
              show _ = _
              rw [← List.append_assoc, List.drop_append_of_le_length (l₁ := seq ++ new) (by have := HKl.out; rw [List.length_append]; omega), List.map_append]
              rfl
            clear hne hn1 hn2 R2 wt HT HLe
            go_upto_region 12 with fail
            generalize wr.setCell ⟨bb, x, none⟩ (.int .i64 (nv : Nat)) = w5 at *
            have q := Kg.put_any B B (seq.length + new.length) 0 (x : Int) _ F' w5 W4.out hsz hN (by omega)
            rw [HQl.out] at q
            go_wp2_with fail
            refine q.mono ?_
            rintro e w6 ⟨rfl, F'', u1, u2, u3⟩
            have U1 : Hid (Kg.Que w6 B B 0 (seq.length + (new ++ [x]).length) (((seq ++ (new ++ [x])).drop (k + 1)).map Int.ofNat) F'') := by
              have h9 := u1
              rw [List.length_append]
              exact h9
            have U2 : Hid (Fz w6 bb m (byn seq (new ++ [x]) by' nv)) := W3.out.touch u2 HbF.out
            have hsz5 : wS.heap.size ≤ w5.heap.size := W5.out.size
            have U3 : Hid (Kg.Newer wS.heap.size F F'') := fun y hy => by
              rcases u3 y hy with h | h
              · exact R4.out y h
              · exact .inr (Nat.le_trans hsz5 h)
            have U4 : Hid (Kg.Touch (bb :: F) wS w6) := W5.out.then u2 (fun y hy => by
              rcases R4.out y hy with h | h
              · exact .inl (List.mem_cons_of_mem _ h)
              · exact .inr h)
            clear q u1 u2 u3 W3 W4 W5 R3 R4 R5
            go_wp2
            go_roundw
            case rel => exact ⟨i + 1, new ++ [x], F'', by omega, by go_num, HNW, U2, U1, U3, U4⟩
            case measure => simp [intOf]; omega
          · have hne' : (byn seq new by' nv x == -1) = false := beq_eq_false_iff_ne.2 hne
            have HNW : Hid (NW seq (L.take (i + 1)) new) := by
              show NW _ _ _
              rw [HT.out]
              refine R1.out.skip ?_
              by_cases h1 : x ∈ seq
              · exact .inl h1
              · by_cases h2 : x ∈ new
                · exact .inr h2
                · exact absurd (byn_neg.2 ⟨h1, h2⟩) hne
            generalize byn seq new by' nv x = z at *
            go_wp2
            go_roundw
            case rel => exact ⟨i + 1, new, F', by omega, by go_num, HNW, R2, R3, R4, R5⟩
            case measure => simp [intOf]; omega
        · have hiI : ¬ (i : Int) < (L.length : Int) := by omega
          have eT : L.take i = L := List.take_of_length_le (by omega)
          rw [eT] at R1
          have hmem : ∀ y, y ∈ new ↔ y ∈ wy17 g nv ∧ y ∉ seq := fun y => by
            rw [R1.out.mem, HLw.out]
            constructor
            · rintro ⟨h1, h2⟩
              exact ⟨⟨h1, fun e => h2 (by rw [e]; exact G1.out.m0)⟩, h2⟩
            · rintro ⟨⟨h1, -⟩, h2⟩
              exact ⟨h1, h2⟩
          have bt := G1.out.step HSK.out R1.out.pw hmem
          obtain ⟨seq', hseq'⟩ : ∃ s', s' = seq ++ new := ⟨_, rfl⟩
          have V1 : Hid (∃ by2 dep2 pos2, Bt (wy17 g) seq' (k + 1) by2 dep2 pos2 ∧ Fz wr bb m (byv seq' by2)) := by
            rw [hseq']
            exact ⟨_, _, _, bt, by rw [byn_end]; exact R2.out⟩
          have V2 : Hid (∀ y, y ∈ seq' → y < m) := fun y hy => by
            rw [hseq'] at hy
            rcases List.mem_append.1 hy with h | h
            · exact G2.out y h
            · exact HLm.out y ((R1.out.mem y).1 h).1
          have V3 : Hid (Kg.Que wr B B 0 seq'.length ((seq'.drop (k + 1)).map Int.ofNat) F') := by
            rw [hseq', List.length_append]
            exact R3.out
          have V4 : Hid (k + 1 ≤ seq'.length) := by have := HKl.out; show _ ≤ _; rw [hseq', List.length_append]; omega
          have V5 : Hid (Below w.heap.size w wr) := S7.out.trans (R5.out.below S7.out.size (fun y hy => by
            rcases List.mem_cons.1 hy with h | h
            · rw [h]; exact hbb
            · have := (HFk.out y h).1; have := HBB.out.2; omega))
          have V6 : Hid (B ≤ wr.heap.size) := Nat.le_trans S8.out R5.out.size
          have V7 : Hid (seq'.length ≤ m) := by
            obtain ⟨_, _, _, h1, -⟩ := V1.out
            exact h1.len V2.out
          clear eT hmem bt hseq' R1 R2 R3 R4 R5
          by_cases hq : k + 1 < seq'.length
          · obtain ⟨y, hy⟩ : ∃ y, seq'[k + 1]? = some y := ⟨_, List.getElem?_eq_getElem hq⟩
            have e9 : (seq'.drop (k + 1)).map Int.ofNat = (y : Int) :: (seq'.drop (k + 1 + 1)).map Int.ofNat := by
              obtain ⟨h1, h2⟩ := List.getElem?_eq_some_iff.1 hy
              rw [List.drop_eq_getElem_cons h1, h2]
              rfl
            have v3 := V3.out
            rw [e9] at v3
            have q := Kg.take_any B B seq'.length 0 (y : Int) _ F' wr v3 (by have := V7.out; omega)
            have HY : Hid (seq'[k + 1]? = some y) := hy
            have hym := V2.out y (List.mem_of_getElem? hy)
            have HbF2 : Hid (bb ∉ F') := HbF
            have HFB : Hid (∀ x, x ∈ F' → w.heap.size ≤ x) := fun x hx => by have := (v3.mem x hx).1; have := HBB.out.2; omega
            clear v3 e9 hy
            go_wp2_with fail
            refine q.mono ?_
            rintro e w6 ⟨rfl, u1, u2⟩
            have X1 : Hid (SsM g w B bb B m (.int .i64 (y : Nat)) (.bool true) w6 (m + 1 - (k + 1))) := by
              obtain ⟨by2, dep2, pos2, h1, h2⟩ := V1.out
              exact ⟨y, true, rfl, rfl, hym, seq', k + 1, by2, dep2, pos2, F', h1, V2.out, h2.touch u2 HbF2.out, u1, fun _ => ⟨HY.out, rfl⟩, fun h => (by cases h), V5.out.trans (u2.below V5.out.size HFB.out), Nat.le_trans V6.out u2.size⟩
            have HLT : Hid (m + 1 - (k + 1) < j0) := by have h1 := HJ2.out; have h2 := HKl.out; have h3 := HSl.out; show _ < _; omega
            clear q u1 u2 V1 V3 V5 V6
            go_wp2
            go_roundw
            case rel => exact ⟨_, X1.out⟩
            case measure =>
              have h1 := eps_le X1.out
              have h2 := HLT.out
              have h3 := HJ.out
              rw [← h3]
              exact Nat.lt_of_le_of_lt h1 h2
          · have hk9 : k + 1 = seq'.length := by have := V4.out; omega
            have e9 : seq'.drop (k + 1) = [] := List.drop_eq_nil_of_le (by omega)
            have v3 := V3.out
            rw [e9] at v3
            have q := Kg.take_none B B seq'.length 0 F' wr v3
            have HK9 : Hid (k + 1 = seq'.length) := hk9
            clear hk9 e9
            go_wp2_with fail
            refine q.mono ?_
            rintro e w6 ⟨rfl, nq, rfl⟩
            have X1 : Hid (SsM g w B bb B m (.int .i64 ((0 : Nat) : Int)) (.bool false) (wr.drewN nq) 0) := by
              obtain ⟨by2, dep2, pos2, h1, h2⟩ := V1.out
              refine ⟨0, false, rfl, rfl, by omega, seq', k + 1, by2, dep2, pos2, F', h1, V2.out, h2.touch (Kg.Touch.drewN [] _ _) (by simp), ?_, fun h => (by cases h), fun _ => ⟨HK9.out, rfl⟩, below_drewN V5.out nq, V6.out⟩
              have h9 := V3.out.keep (Kg.Touch.drewN [] wr nq) (fun x _ h => by simp at h)
              rw [HK9.out] at h9 ⊢
              rw [List.drop_eq_nil_of_le (Nat.le_refl _)] at h9
              rw [List.drop_eq_nil_of_le (by omega)]
              exact h9
            have HLT : Hid (0 < j0) := by have h1 := HJ2.out; have h2 := HKl.out; have h3 := HSl.out; show _ < _; omega
            clear q v3 V1 V3 V5 V6
            go_wp2
            go_roundw
            case rel => exact ⟨_, X1.out⟩
            case measure =>
              have h1 := eps_le X1.out
              have h2 := HLT.out
              have h3 := HJ.out
              rw [← h3]
              exact Nat.lt_of_le_of_lt h1 h2
end Go.Proofs.YtkekaifiahjljaaGreatDoor
