import Derived.Test.YtkekaifiahjljaaGreatDoorC19
import Derived.Test.YtkekaifiahjljaaGreatDoorC20
set_option linter.unusedVariables false
set_option maxHeartbeats 8000000
set_option maxRecDepth 20000
namespace Go.Proofs.YtkekaifiahjljaaGreatDoor
open Go.RowKit Go.Shelf Go.Proofs.YtkekaifiahjljaaGreatDoor.Lt
variable {par : Nat → Nat} {p q : Nat} {σ : Nat → Nat} {B fb sb ab bb sc ac bc : Nat}
theorem touch_cell {F : List Nat} {w w' : World} (ht : Kg.Touch F w w') {g : Nat} (h1 : g < w.heap.size) (h2 : g ∉ F) (x : Nat) : w'.cell? ⟨g, x, none⟩ = w.cell? ⟨g, x, none⟩ := by
  unfold World.cell?
  rw [ht.block g h1 h2]
structure Wx (X : World → Prop) where
  v : World
  h : X v
def sat (σ : Nat → Nat) (z s : Nat) : Nat → Nat := fun y => if y = z then s else σ y
theorem sat_at (z s : Nat) : sat σ z s z = s := if_pos rfl
theorem sat_ne {z s y : Nat} (h : y ≠ z) : sat σ z s y = σ y := if_neg h
theorem sat_sat (z s t : Nat) : sat (sat σ z s) z t = sat σ z t := by
  funext y
  unfold sat
  by_cases e : y = z
  · rw [if_pos e, if_pos e]
  · rw [if_neg e, if_neg e, if_neg e]
theorem sat_self (z : Nat) : sat σ z (σ z) = σ := by
  funext y
  unfold sat
  by_cases e : y = z
  · rw [if_pos e, e]
  · rw [if_neg e]
theorem Fst.setS {w : World} {F : List Nat} (h : Fst par p q σ B fb sb ab bb sc ac bc w F) {z : Nat} (hz : z < q) (hzp : z < p) (s : Nat) : Fst par p q (sat σ z s) B fb sb ab bb sc ac bc (w.setCell ⟨sb, z, none⟩ (.int .i64 (s : Nat))) F := by
  obtain ⟨tv, l, fa, bs, h1, h2, rfl⟩ := h
  refine ⟨tv, l, fa, bs, ?_, h2.congr (fun y hy => sat_ne (by omega)), rfl⟩
  have h3 := h1.setS hzp (s : Nat)
  have h4 : (fun y => if y = z then (s : Int) else (σ y : Int)) = fun y => ((sat σ z s y : Nat) : Int) := by
    funext y
    unfold sat
    by_cases e : y = z
    · rw [if_pos e, if_pos e]
    · rw [if_neg e, if_neg e]
  rw [h4] at h3
  exact h3
structure Rk (par : Nat → Nat) (σ : Nat → Nat) (z : Nat) (L l : List Nat) (s : Nat) : Prop where
  le : s ≤ z
  a : s = z ∨ ∃ v, v ∈ L ∧ ((v < z ∧ s = v) ∨ (z < v ∧ ∃ u, z < u ∧ Anc par u v ∧ s = σ u))
  b : ∀ v, v ∈ l → (v < z → s ≤ v) ∧ (z < v → ∀ u, z < u → Anc par u v → s ≤ σ u)
theorem Rk.step {z s v u : Nat} {L l : List Nat} (h : Rk par σ z L l s) (hv : v ∈ L) (hlo : ∀ y, y < z → σ y = y) (hu : Low par p (z + 1) (sat σ z s) v u) : Rk par σ z L (l ++ [v]) (min s (sat σ z s u)) := by
  have hle : min s (sat σ z s u) ≤ s := Nat.min_le_left _ _
  have hle2 : min s (sat σ z s u) ≤ sat σ z s u := Nat.min_le_right _ _
  refine ⟨Nat.le_trans hle h.le, ?_, fun x hx => ?_⟩
  · rcases Nat.le_total s (sat σ z s u) with h1 | h1
    · rw [Nat.min_eq_left h1]; exact h.a
    · rw [Nat.min_eq_right h1]
      rcases Nat.lt_trichotomy v z with h2 | h2 | h2
      · rw [hu.2.1 (by omega), sat_ne (by omega), hlo v h2]
        exact .inr ⟨v, hv, .inl ⟨h2, rfl⟩⟩
      · rw [hu.2.1 (by omega), h2, sat_at]
        exact h.a
      · obtain ⟨h3, h4, -⟩ := hu.2.2 (by omega)
        rw [sat_ne (by omega)]
        exact .inr ⟨v, hv, .inr ⟨h2, u, by omega, h4, rfl⟩⟩
  · rcases List.mem_append.1 hx with h1 | h1
    · exact ⟨fun h2 => Nat.le_trans hle ((h.b x h1).1 h2), fun h2 y h3 h4 => Nat.le_trans hle ((h.b x h1).2 h2 y h3 h4)⟩
    · have e : x = v := by simpa using h1
      subst e
      refine ⟨fun h2 => ?_, fun h2 y h3 h4 => ?_⟩
      · rw [hu.2.1 (by omega), sat_ne (by omega), hlo x h2] at hle2
        rw [hu.2.1 (by omega), sat_ne (by omega), hlo x h2]
        exact hle2
      · obtain ⟨h5, -, h6⟩ := hu.2.2 (by omega)
        have h7 := h6 y (by omega) h4
        rw [sat_ne (y := y) (by omega)] at h7
        omega
theorem reckon_any {E : Nat → Nat → Prop} (D : Dt E par p) (hp2 : p ≤ 2000000) (z : Nat) (hz : z < p) (hlo : ∀ y, y ≤ z → σ y = y) (L : List Nat) (hL : ∀ x, x ∈ L → x < p) (hLl : L.length ≤ 1000000000) (w : World) (F : List Nat) (h : Fst par p (z + 1) σ B fb sb ab bb sc ac bc w F) (hB : B ≤ w.heap.size) (n0 : Nat) (hn0 : n0 ≤ B) (vf : Value) (hl : Lrd n0 w vf .i64 (L.map Int.ofNat)) :
    Calls Tryz.prog 111 #[.pointer (some ⟨fb, 0, none⟩), .int .i64 (z : Nat), vf] w fun e w' => e = .returned (.tuple #[]) ∧ ∃ s F', Rk par σ z L L s ∧ Fst par p (z + 1) (sat σ z s) B fb sb ab bb sc ac bc w' F' ∧ Kg.Touch F w w' ∧ Kg.Newer w.heap.size F F' := by
  obtain ⟨pa, pc, ep, -, hp⟩ := hl
  rw [List.length_map] at ep
  subst ep
  have HP : Hid (∀ wr, Kg.Touch F w wr → ∀ (f : Nat) x, L[f]? = some x → ∃ g off, pa = some ⟨g, off, none⟩ ∧ wr.cell? ⟨g, off + f, none⟩ = some (.int .i64 (x : Nat))) := fun wr ht f x hx => by
    obtain ⟨g, off, e1, e2, e3⟩ := hp f (x : Nat) (by rw [List.getElem?_map, hx]; rfl)
    refine ⟨g, off, e1, ?_⟩
    have e4 : g ∉ F := fun hm => by have := h.mem g hm; omega
    exact (touch_cell ht (by omega) e4 _).trans e3
  have HF : Hid (Fst par p (z + 1) σ B fb sb ab bb sc ac bc w F) := h
  have HD : Hid (Dt E par p) := D
  have HLo : Hid (∀ y, y ≤ z → σ y = y) := hlo
  have HL : Hid (∀ x, x ∈ L → x < p) := hL
  clear h hp D hlo hL
  go_enter Tryz.func111, Tryz.ntmps111
  go_wp2
  go_loopw [7, 10] (fun _ v10 wr => ∃ (k s : Nat) (F1 : List Nat), v10 = .int .i64 (k : Nat) ∧ k ≤ L.length ∧ Hid (Rk par σ z L (L.take k) s) ∧ Hid (Fst par p (z + 1) (sat σ z s) B fb sb ab bb sc ac bc wr F1) ∧ Hid (Kg.Touch F w wr) ∧ Hid (Kg.Newer w.heap.size F F1)) (fun _ v10 _ => L.length - (intOf v10).toNat)
  case atStart =>
    refine ⟨0, z, F, rfl, Nat.zero_le _, ⟨Nat.le_refl _, .inl rfl, fun v hv => by simp at hv⟩, ?_, Kg.Touch.refl _ _, Kg.Newer.refl _ _⟩
    have h9 : sat σ z z = σ := by have h8 := sat_self (σ := σ) z; rw [HLo.out z (Nat.le_refl _)] at h8; exact h8
    show Fst _ _ _ _ _ _ _ _ _ _ _ _ _ _
    rw [h9]
    exact HF.out
  case round =>
    obtain ⟨k, s, F1, rfl, hk, R1, R2, R3, R4⟩ := hrel
    by_cases hkl : k < L.length
    · have hki : (k : Int) < (L.length : Int) := by omega
      obtain ⟨x, hx⟩ : ∃ x, L[k]? = some x := ⟨_, List.getElem?_eq_getElem hkl⟩
      have hxp := HL.out x (List.mem_of_getElem? hx)
      obtain ⟨g, off, rfl, cx⟩ := HP.out wr R3.out k x hx
      have HX : Hid (L[k]? = some x) := hx
      clear hx
      go_upto_region 3 with fail
      have hF2 : Fst par p (z + 1) (sat σ z s) B fb sb ab bb sc ac bc wr.drew F1 := R2.out.drewN 1
      have hBd : B ≤ wr.drew.heap.size := Nat.le_trans hB R3.out.size
      have HX0 : Hid (Fsl par p (z + 1) (sat σ z s) B fb sb ab bb sc ac bc wr.drew F1 wr.drew) := ⟨F1, hF2, Kg.Touch.refl _ _, Kg.Newer.refl _ _⟩
      obtain ⟨X, hX⟩ : ∃ X : World → Prop, X = Fsl par p (z + 1) (sat σ z s) B fb sb ab bb sc ac bc wr.drew F1 := ⟨_, rfl⟩
      have HXe : Hid (X = Fsl par p (z + 1) (sat σ z s) B fb sb ab bb sc ac bc wr.drew F1) := hX
      rw [← hX] at HX0
      have hG : ∀ P : Wx X, P.v.cell? ⟨fb, 0, none⟩ = some (.slice (some ⟨sb, 0, none⟩) p sc) ∧ (∀ y, y < p → P.v.cell? ⟨sb, y, none⟩ = some (.int .i64 (sat σ z s y : Nat))) ∧ P.v.frozen? ⟨sb, z, none⟩ = false := fun P => by
        have h2 : Fsl par p (z + 1) (sat σ z s) B fb sb ab bb sc ac bc wr.drew F1 P.v := Eq.mp (congrFun hX P.v) P.h
        obtain ⟨F2, ⟨tv2, l2, fa2, bs2, hR2, -, -⟩, -, -⟩ := h2
        exact ⟨hR2.cells.1, fun y hy => hR2.s.cell hy, hR2.s.frozen z⟩
      have x0 : ∀ P : Wx X, P.v.cell? ⟨fb, 0, none⟩ = some (.slice (some ⟨sb, 0, none⟩) p sc) := fun P => (hG P).1
      have cz : ∀ P : Wx X, P.v.cell? ⟨sb, z, none⟩ = some (.int .i64 (s : Nat)) := fun P => by
        have h9 := (hG P).2.1 z hz
        rw [sat_at] at h9
        exact h9
      have zz : ∀ P : Wx X, P.v.frozen? ⟨sb, z, none⟩ = false := fun P => (hG P).2.2
      have HG : Hid (∀ y, y < p → ∀ P : Wx X, P.v.cell? ⟨sb, y, none⟩ = some (.int .i64 (sat σ z s y : Nat))) := fun y hy P => (hG P).2.1 y hy
      have HC : Hid (∀ P : Wx X, Calls Tryz.prog 163 #[.pointer (some ⟨fb, 0, none⟩), .int .i64 (x : Nat)] P.v fun e w' => ∃ v, e = .returned v ∧ (∃ u : Nat, v = .int .i64 (u : Nat) ∧ Low par p (z + 1) (sat σ z s) x u) ∧ ∃ P' : Wx X, w' = P'.v) := fun P => by
        have h2 : Fsl par p (z + 1) (sat σ z s) B fb sb ab bb sc ac bc wr.drew F1 P.v := Eq.mp (congrFun hX P.v) P.h
        obtain ⟨F2, f1, f2, f3⟩ := h2
        refine (lowest_any HD.out hp2 x hxp P.v F2 f1 (Nat.le_trans hBd f2.size)).mono ?_
        rintro e w' ⟨u, rfl, hlow, F3, g1, g2, g3⟩
        refine ⟨_, rfl, ⟨u, rfl, hlow⟩, ⟨w', Eq.mpr (congrFun hX w') ?_⟩, rfl⟩
        refine ⟨F3, g1, f2.then g2 f3, fun k hk => ?_⟩
        rcases g3 k hk with h1 | h1
        · exact f3 k h1
        · exact .inr (Nat.le_trans f2.size h1)
      have hzi : (z : Int) < (p : Int) := by omega
      have hne : Nonempty (Wx X) := ⟨⟨wr.drew, HX0.out⟩⟩
      clear hG hF2 hX cx
      refine Kg.loose_last (fun w' => ∃ P : Wx X, w' = P.v) ⟨⟨wr.drew, HX0.out⟩, rfl⟩ 18 23 (fun v => ∃ u : Nat, v = .int .i64 (u : Nat) ∧ Low par p (z + 1) (sat σ z s) x u) rfl Kg.mixed (by kernel_rfl) (by kernel_rfl) (by decide) (by kernel_rfl) ?_
      simp only [List.take_succ_cons, List.take_zero, List.drop_succ_cons, List.drop_zero]
      iterate 18 (go_big_quiet_step (fail))
      refine wpQuiet_nil ?_
      refine ⟨⟨?_, ?_⟩, ?_⟩
      · rfl
      · rintro w' ⟨P, rfl⟩
        refine ⟨163, #[.pointer (some ⟨fb, 0, none⟩), .int .i64 (x : Nat)], ?_, HC.out P⟩
        simp [go_sem]
      · rintro v ⟨u, rfl, hlow⟩
        have mu := HG.out u hlow.1
        have hui : (u : Int) < (p : Int) := by have := hlow.1; omega
        repeat (go_big_quiet_step (fail))
        refine wpQuiet_nil ?_
        rintro w2 ⟨P, rfl⟩
        have m0 := x0 P
        have mz := cz P
        have mzz := zz P
        have hfs : Fsl par p (z + 1) (sat σ z s) B fb sb ab bb sc ac bc wr.drew F1 P.v := by
          exact Eq.mp (congrFun HXe.out P.v) P.h
        have HFS : Hid (Fsl par p (z + 1) (sat σ z s) B fb sb ab bb sc ac bc wr.drew F1 P.v) := hfs
        have HLO : Hid (Low par p (z + 1) (sat σ z s) x u) := hlow
        clear hfs hlow x0 cz zz mu
        generalize P.v = w2 at *
        go_wp2
        refine Kg.thenQuiet_mk ?_
        refine wpQuiet_nil ?_
        have e9 : min (s : Int) (sat σ z s u : Int) = ((min s (sat σ z s u) : Nat) : Int) := by omega
        rw [e9]
        have HN : Hid (∃ F2, Hid (Fst par p (z + 1) (sat σ z (min s (sat σ z s u))) B fb sb ab bb sc ac bc (w2.setCell ⟨sb, z, none⟩ (.int .i64 ((min s (sat σ z s u) : Nat) : Int))) F2) ∧ Hid (Kg.Touch F w (w2.setCell ⟨sb, z, none⟩ (.int .i64 ((min s (sat σ z s u) : Nat) : Int)))) ∧ Hid (Kg.Newer w.heap.size F F2)) := by
          obtain ⟨F2, f1, f2, f3⟩ := HFS.out
          have hws := R3.out.size
          have hin : sb ∈ F2 := by obtain ⟨_, _, _, _, _, _, rfl⟩ := f1; simp
          have n2 : Kg.Newer w.heap.size F F2 := fun k hk => by
            rcases f3 k hk with h1 | h1
            · exact R4.out k h1
            · exact .inr (Nat.le_trans hws h1)
          have t2 : Kg.Touch F w w2 := (R3.out.trans (Kg.Touch.drew _ _)).then f2 (fun k hk => R4.out k hk)
          refine ⟨F2, ?_, t2.then (Kg.Touch.setCell (F := [sb]) w2 ⟨sb, z, none⟩ _ (by simp)) (fun k hk => ?_), n2⟩
          · have h8 := f1.setS (z := z) (by omega) hz (min s (sat σ z s u))
            rw [sat_sat] at h8
            exact h8
          · have : k = sb := by simpa using hk
            rw [this]
            exact n2 sb hin
        have HK : Hid (Rk par σ z L (L.take (k + 1)) (min s (sat σ z s u))) := by
          have h8 := R1.out.step (List.mem_of_getElem? HX.out) (fun y hy => HLo.out y (by omega)) HLO.out
          have h7 : L.take (k + 1) = L.take k ++ [x] := by rw [List.take_add_one, HX.out]; rfl
          show Rk _ _ _ _ _ _
          rw [h7]
          exact h8
        clear m0 mz mzz HFS HLO HG HC R1 R2 R3 R4
        generalize w2.setCell ⟨sb, z, none⟩ (.int .i64 ((min s (sat σ z s u) : Nat) : Int)) = w3 at *
        obtain ⟨F2, f1, f2, f3⟩ := HN
        go_wp2
        go_roundw
        case rel => exact ⟨k + 1, min s (sat σ z s u), F2, by simp, by omega, HK, f1, f2, f3⟩
        case measure => simp [intOf]; omega
    · have hki : ¬ (k : Int) < (L.length : Int) := by omega
      have hk9 : k = L.length := by omega
      have h9 : L.take k = L := List.take_of_length_le (by omega)
      rw [h9] at R1
      go_wp2
      refine bodyPost_end (v := .tuple #[]) ?_ rfl ⟨rfl, s, R1.out, F1, R2.out, R3.out, R4.out⟩
      simp [results, Tryz.results111, go_sem]
theorem fld_push {w3 w8 : World} {B fb t j : Nat} {cs : Array Value} {tv v8 : Value} {l : List Int} {x : Int} (hh : w3.heap[fb]? = some (.cells cs t (0, 0))) (hI : Il w3 B tv l) (hc : cs[j]? = some tv) (hB : B ≤ w3.heap.size)
    (h8 : w8.ownsRow B 3 1 v8 (l.length + 1) (Kg.ints l ++ [.int .i64 x])) (g8 : (w3.alloc (.cells #[.int .i64 x] 3)).grownBy w8 tv.ownBlock) (e8 : v8.ownBlock = tv.ownBlock ∨ v8.ownBlock = some (w3.alloc (.cells #[.int .i64 x] 3)).heap.size) (hte : t ≠ 3 := by decide) :
    ∃ a8 c8, v8 = .slice a8 (l.length + 1) c8 ∧ w8.cell? ⟨fb, j, none⟩ = some tv ∧ w8.frozen? ⟨fb, j, none⟩ = false ∧
      Hid ((w8.setCell ⟨fb, j, none⟩ v8).heap[fb]? = some (.cells (cs.setIfInBounds j v8) t (0, 0)) ∧ Il (w8.setCell ⟨fb, j, none⟩ v8) B v8 (l ++ [x]) ∧ Kg.Touch (fb :: tv.ownBlock.toList) w3 (w8.setCell ⟨fb, j, none⟩ v8) ∧ (v8.ownBlock = tv.ownBlock ∨ v8.ownBlock = some (w3.heap.size + 1))) := by
  obtain ⟨s1, s2, -⟩ := Il.snoc hI h8 g8 hB
  have h10 : (w3.alloc (.cells #[.int .i64 x] 3)).heap.size = w3.heap.size + 1 := by simp
  rw [h10] at e8
  have hne : ∀ {W : World} {v : Value} {n : Nat} {ys : List Value}, W.heap[fb]? = some (.cells cs t (0, 0)) → W.ownsRow B 3 1 v n ys → some fb ≠ v.ownBlock := fun {W v n ys} h1 h2 => Kg.row_ne h1 h2 hte
  have h11 : fb ∉ tv.ownBlock.toList := fun hm => by rw [Option.mem_toList] at hm; exact hne hh hI hm.symm
  have hh8 := (s2.block _ (Kg.heap_lt hh) h11).trans hh
  obtain ⟨a8, c8, e9⟩ := own_sl17 h8
  refine ⟨a8, c8, e9, (Kg.heap_cell hh8 j).trans hc, Kg.heap_frozen hh8 j, Kg.heap_set hh8 j v8, Kg.row_keep2 s1 (Kg.Touch.setCell (F := [fb]) w8 ⟨fb, j, none⟩ v8 (by simp)) (fun k hk => ?_), (s2.mono (fun k hk => .inl (by simp [hk]))).trans (Kg.Touch.setCell _ _ _ (by simp)), e8⟩
  simp only [List.mem_singleton]
  exact fun e => hne hh8 s1 (by rw [hk, e])
theorem range_snoc (k : Nat) : (List.range (k + 1)).map Int.ofNat = (List.range k).map Int.ofNat ++ [(k : Int)] := by
  rw [List.range_succ, List.map_append]
  rfl
structure Nf (w wr : World) (B fb ab p k k2 : Nat) (vs vb : Value) : Prop where
  h : wr.heap[fb]? = some (.cells #[vs, .slice (some ⟨ab, 0, none⟩) p p, vb, .slice none 0 0] 145 (0, 0))
  s : Il wr B vs ((List.range k).map Int.ofNat)
  b : Il wr B vb ((List.range k2).map Int.ofNat)
  a : Fy wr ab p (fun _ => -1)
  ne : ∀ j, vs.ownBlock = some j → vb.ownBlock ≠ some j ∧ j ≠ ab
  nb : ∀ j, vb.ownBlock = some j → j ≠ ab
  lo : B ≤ fb ∧ B ≤ ab
  bl : Below B w wr
  sz : B ≤ wr.heap.size
theorem Nf.pushS {w wr w8 : World} {B A ab p k : Nat} {sA bA : Option Addr} {sC bC : Nat} {v8 : Value} (R : Nf w wr B A ab p k k (.slice sA k sC) (.slice bA k bC)) (h8 : w8.ownsRow B 3 1 v8 (k + 1) (Kg.ints ((List.range k).map Int.ofNat) ++ [.int .i64 (k : Int)]))
    (g8 : (wr.alloc (.cells #[.int .i64 (k : Int)] 3)).grownBy w8 (Value.slice sA k sC).ownBlock) (e8 : v8.ownBlock = (Value.slice sA k sC).ownBlock ∨ v8.ownBlock = some (wr.alloc (.cells #[.int .i64 (k : Int)] 3)).heap.size) :
    ∃ a8 c8, v8 = .slice a8 (k + 1) c8 ∧ w8.cell? ⟨A, 0, none⟩ = some (Value.slice sA k sC) ∧ w8.frozen? ⟨A, 0, none⟩ = false ∧ Hid (Nf w (w8.setCell ⟨A, 0, none⟩ v8) B A ab p (k + 1) k v8 (.slice bA k bC)) := by
  have h9 := fld_push (j := 0) R.h R.s rfl R.sz (by rw [List.length_map, List.length_range]; exact h8) g8 e8
  simp only [List.length_map, List.length_range] at h9
  obtain ⟨a8, c8, e1, e2, e3, e4⟩ := h9
  refine ⟨a8, c8, e1, e2, e3, ?_⟩
  obtain ⟨n1, n2, n3, n4⟩ := e4.out
  have hdis : ∀ j, (Value.slice bA k bC).ownBlock = some j → (Value.slice sA k sC).ownBlock ≠ some j := fun j h1 h2 => (R.ne j h2).1 h1
  have hab : ∀ j, (Value.slice sA k sC).ownBlock = some j → j ≠ ab := fun j h1 => (R.ne j h1).2
  have hkeep : ∀ j, (Value.slice bA k bC).ownBlock = some j → j ∉ A :: (Value.slice sA k sC).ownBlock.toList := fun j hj hm => by
    rcases List.mem_cons.1 hm with h1 | h1
    · exact absurd (by rw [hj, h1]) (Kg.row_ne R.h R.b (by decide)).symm
    · rw [Option.mem_toList] at h1
      exact hdis j hj h1
  have hAab : ab ∉ A :: (Value.slice sA k sC).ownBlock.toList := fun hm => by
    rcases List.mem_cons.1 hm with h1 | h1
    · obtain ⟨cs', q1, -⟩ := R.a.ex
      rw [h1, R.h] at q1
      simp only [Option.some.injEq, Obj.cells.injEq] at q1
      exact absurd q1.2.1 (by decide)
    · rw [Option.mem_toList] at h1
      exact hab ab h1 rfl
  have hnew : ∀ j, v8.ownBlock = some j → (Value.slice bA k bC).ownBlock ≠ some j ∧ j ≠ ab := fun j hj => by
    rcases n4 with h1 | h1
    · rw [h1] at hj
      exact ⟨fun h => hdis j h hj, hab j hj⟩
    · rw [h1] at hj
      cases hj
      refine ⟨fun h => ?_, ?_⟩
      · have := (World.ownsRow.lt R.b _ h).2
        omega
      · have := R.a.lt
        omega
  have hbl : Below B w (w8.setCell ⟨A, 0, none⟩ v8) := R.bl.trans (n3.below R.sz (fun q hq => by
    rcases List.mem_cons.1 hq with h1 | h1
    · rw [h1]; exact R.lo.1
    · rw [Option.mem_toList] at h1
      exact (World.ownsRow.lt R.s _ h1).1))
  exact ⟨n1, by rw [range_snoc]; exact n2, Kg.row_keep2 R.b n3 hkeep, R.a.touch n3 hAab, hnew, R.nb, R.lo, hbl, Nat.le_trans R.sz n3.size⟩
theorem Nf.pushB {w wr w8 : World} {B A ab p k : Nat} {sA bA : Option Addr} {sC bC : Nat} {v8 : Value} (R : Nf w wr B A ab p (k + 1) k (.slice sA (k + 1) sC) (.slice bA k bC)) (h8 : w8.ownsRow B 3 1 v8 (k + 1) (Kg.ints ((List.range k).map Int.ofNat) ++ [.int .i64 (k : Int)]))
    (g8 : (wr.alloc (.cells #[.int .i64 (k : Int)] 3)).grownBy w8 (Value.slice bA k bC).ownBlock) (e8 : v8.ownBlock = (Value.slice bA k bC).ownBlock ∨ v8.ownBlock = some (wr.alloc (.cells #[.int .i64 (k : Int)] 3)).heap.size) :
    ∃ a8 c8, v8 = .slice a8 (k + 1) c8 ∧ w8.cell? ⟨A, 2, none⟩ = some (Value.slice bA k bC) ∧ w8.frozen? ⟨A, 2, none⟩ = false ∧ Hid (Nf w (w8.setCell ⟨A, 2, none⟩ v8) B A ab p (k + 1) (k + 1) (.slice sA (k + 1) sC) v8) := by
  have h9 := fld_push (j := 2) R.h R.b rfl R.sz (by rw [List.length_map, List.length_range]; exact h8) g8 e8
  simp only [List.length_map, List.length_range] at h9
  obtain ⟨a8, c8, e1, e2, e3, e4⟩ := h9
  refine ⟨a8, c8, e1, e2, e3, ?_⟩
  obtain ⟨n1, n2, n3, n4⟩ := e4.out
  have hdis : ∀ j, (Value.slice sA (k + 1) sC).ownBlock = some j → (Value.slice bA k bC).ownBlock ≠ some j := fun j h1 h2 => (R.ne j h1).1 h2
  have hab : ∀ j, (Value.slice bA k bC).ownBlock = some j → j ≠ ab := fun j h1 => R.nb j h1
  have hkeep : ∀ j, (Value.slice sA (k + 1) sC).ownBlock = some j → j ∉ A :: (Value.slice bA k bC).ownBlock.toList := fun j hj hm => by
    rcases List.mem_cons.1 hm with h1 | h1
    · exact absurd (by rw [hj, h1]) (Kg.row_ne R.h R.s (by decide)).symm
    · rw [Option.mem_toList] at h1
      exact hdis j hj h1
  have hAab : ab ∉ A :: (Value.slice bA k bC).ownBlock.toList := fun hm => by
    rcases List.mem_cons.1 hm with h1 | h1
    · obtain ⟨cs', q1, -⟩ := R.a.ex
      rw [h1, R.h] at q1
      simp only [Option.some.injEq, Obj.cells.injEq] at q1
      exact absurd q1.2.1 (by decide)
    · rw [Option.mem_toList] at h1
      exact hab ab h1 rfl
  have hnew : ∀ j, v8.ownBlock = some j → (Value.slice sA (k + 1) sC).ownBlock ≠ some j ∧ j ≠ ab := fun j hj => by
    rcases n4 with h1 | h1
    · rw [h1] at hj
      exact ⟨fun h => hdis j h hj, hab j hj⟩
    · rw [h1] at hj
      cases hj
      refine ⟨fun h => ?_, ?_⟩
      · have := (World.ownsRow.lt R.s _ h).2
        omega
      · have := R.a.lt
        omega
  have hbl : Below B w (w8.setCell ⟨A, 2, none⟩ v8) := R.bl.trans (n3.below R.sz (fun q hq => by
    rcases List.mem_cons.1 hq with h1 | h1
    · rw [h1]; exact R.lo.1
    · rw [Option.mem_toList] at h1
      exact (World.ownsRow.lt R.b _ h1).1))
  exact ⟨n1, Kg.row_keep2 R.s n3 hkeep, by rw [range_snoc]; exact n2, R.a.touch n3 hAab, fun j hj => ⟨fun h => (hnew j h).1 hj, (R.ne j hj).2⟩, fun j hj => (hnew j hj).2, R.lo, hbl, Nat.le_trans R.sz n3.size⟩
theorem Nf.fin (par : Nat → Nat) {w wr : World} {B A ab p : Nat} {vs vb : Value} (R : Nf w wr B A ab p p p vs vb) (h1 : 1 ≤ p) : ∃ sb bb sc bc F, Fst par p p (fun v => v) B A sb ab bb sc p bc wr F := by
  have hl : ((List.range p).map Int.ofNat).length = p := by rw [List.length_map, List.length_range]
  have h0 : (List.range p).map Int.ofNat ≠ [] := fun h => by have := congrArg List.length h; rw [hl] at this; simp at this; omega
  have hz : ∀ (x : Nat) z, ((List.range p).map Int.ofNat)[x]? = some z → z = (x : Int) := fun x z h => by
    rw [List.getElem?_map] at h
    obtain ⟨y, hy, rfl⟩ := Option.map_eq_some_iff.1 h
    obtain ⟨h6, h7⟩ := List.getElem?_eq_some_iff.1 hy
    rw [List.getElem_range] at h7
    rw [← h7]
    rfl
  obtain ⟨sb, sc, evs, hsb, fys⟩ := R.s.fy (f := fun x => (x : Int)) h0 hz
  obtain ⟨bb, bc, evb, hbb, fyb⟩ := R.b.fy (f := fun x => (x : Int)) h0 hz
  rw [hl] at evs evb fys fyb
  have n1 := R.ne sb (by rw [evs]; rfl)
  have n2 := R.nb bb (by rw [evb]; rfl)
  refine ⟨sb, bb, sc, bc, _, .slice none 0 0, [], fun _ => 0, fun _ => 0, ⟨?_, fys, R.a.congr (fun x hx => (abv_lt hx)), fyb.congr (fun x hx => bst_lt hx), World.ownsRow_nil _ _ _ _, n1.2, fun e => n1.1 (by rw [evb, e]; rfl), fun e => n2 e.symm, fun k hk => (by simp [Value.ownBlock] at hk), R.lo.1, hsb, R.lo.2, hbb⟩, ⟨fun v h2 h3 => by omega, fun v h2 h3 => by omega, fun v h2 h3 => by omega⟩, rfl⟩
  rw [← evs, ← evb]
  exact R.h
theorem newForest_any (par : Nat → Nat) (p : Nat) (h1 : 1 ≤ p) (h2 : p ≤ 2000000) (w : World) :
    Calls Tryz.prog 110 #[.int .i64 (p : Nat)] w fun e w' => ∃ fb sb ab bb sc ac bc F, e = .returned (.pointer (some ⟨fb, 0, none⟩)) ∧ Fst par p p (fun v => v) w.heap.size fb sb ab bb sc ac bc w' F ∧ Below w.heap.size w w' := by
  have qn := nobodies_any p w h1 h2
  obtain ⟨i0, hi0, hj0, hj1, hj2⟩ := info_p17 infoI17
  have HI : Hid (Tryz.prog.info? 3 = some i0 ∧ i0.zero = some (.int .i64 0) ∧ i0.size = 1 ∧ i0.bytes = 8) := ⟨hi0, hj0, hj1, hj2⟩
  clear hi0 hj0 hj1 hj2
  go_enter Tryz.func110, Tryz.ntmps110
  go_wp2_with fail
  refine qn.mono ?_
  rintro e w1 ⟨ab, rfl, hab, f1, b1⟩
  obtain ⟨A, hA⟩ : ∃ A, A = w1.heap.size := ⟨_, rfl⟩
  have HN0 : Hid (Nf w (w1.alloc (.cells #[.slice none 0 0, .slice (some ⟨ab, 0, none⟩) p p, .slice none 0 0, .slice none 0 0] 145)) w.heap.size A ab p 0 0 (.slice none 0 0) (.slice none 0 0)) := by
    have b2 := Below.alloc (Below.refl w1.heap.size w1) (Nat.le_refl _) (.cells #[.slice none 0 0, .slice (some ⟨ab, 0, none⟩) p p, .slice none 0 0, .slice none 0 0] 145 (0, 0))
    have h9 := heap_alloc_new w1 (.cells #[.slice none 0 0, .slice (some ⟨ab, 0, none⟩) p p, .slice none 0 0, .slice none 0 0] 145 (0, 0))
    rw [← hA] at h9
    exact ⟨h9, World.ownsRow_nil _ _ _ _, World.ownsRow_nil _ _ _ _, (Fz.fy f1).touch (Kg.Touch.of_below b2 []) (by simp), fun j h => (by simp [Value.ownBlock] at h), fun j h => (by simp [Value.ownBlock] at h), ⟨by rw [hA]; exact b1.size, hab⟩, b1.trans (b2.mono b1.size), by have := b1.size; simp; omega⟩
  go_upto_region 3 with fail
  rw [← hA]
  clear qn f1 b1 hA
  generalize w1.alloc (.cells #[.slice none 0 0, .slice (some ⟨ab, 0, none⟩) p p, .slice none 0 0, .slice none 0 0] 145) = w2 at *
  go_loopw [4, 10] (fun _ v10 wr => ∃ (k : Nat) (vs vb : Value), v10 = .int .i64 (k : Nat) ∧ k ≤ p ∧ Hid (Nf w wr w.heap.size A ab p k k vs vb)) (fun _ v10 _ => p - (intOf v10).toNat)
  case atStart => exact ⟨0, _, _, rfl, Nat.zero_le _, HN0.out⟩
  case round =>
    obtain ⟨k, vs, vb, rfl, hk, R1⟩ := hrel
    by_cases hkp : k < p
    · have hki : (k : Int) < (p : Int) := by omega
      obtain ⟨sA, sC, evs⟩ := own_sl17 R1.out.s
      obtain ⟨bA, bC, evb⟩ := own_sl17 R1.out.b
      simp only [List.length_map, List.length_range] at evs evb
      subst evs evb
      have c0 := Kg.heap_cell R1.out.h 0
      simp only [List.getElem?_toArray, List.getElem?_cons_zero] at c0
      have HRow : Hid ((wr.alloc (.cells #[.int .i64 (k : Int)] 3)).ownsRow w.heap.size 3 1 (.slice sA k sC) k (Kg.ints ((List.range k).map Int.ofNat))) := by
        have h9 := Il.below R1.out.s (Below.alloc (Below.refl _ _) (Nat.le_refl _) (.cells #[.int .i64 (k : Int)] 3))
        unfold Il at h9
        rw [List.length_map, List.length_range] at h9
        exact h9
      have hws := R1.out.sz
      go_upto_region 6 with (at_builtin; refine wpList_append_own_at _ rfl _ _ 24 rfl w.heap.size 3 i0 (.int .i64 0) 1 8 Tryz.underlying24 HI.out.1 HI.out.2.1 HI.out.2.2.1 HI.out.2.2.2 rfl (by decide) _ _ _ rfl HRow.out ⟨wr.heap.size, 0, none⟩ 1 1 [.int .i64 (k : Int)] rfl rfl (cell_one17 _ _ _) (by simp [Value.oneCell']) (by simp only [maxLen]; omega) (by omega) (by simp; omega) ?_; intro v8 w8 h8 g8 _ e8; obtain ⟨a8, c8, rfl, d8, z8, HN⟩ := R1.out.pushS h8 g8 e8; clear h8 g8 e8 HRow)
      generalize w8.setCell ⟨A, 0, none⟩ (.slice a8 (k + 1) c8) = w3 at *
      clear d8 z8 R1 hws c0
      have c2 := Kg.heap_cell HN.out.h 2
      simp only [List.getElem?_toArray, List.getElem?_cons_zero, List.getElem?_cons_succ] at c2
      have HRow : Hid ((w3.alloc (.cells #[.int .i64 (k : Int)] 3)).ownsRow w.heap.size 3 1 (.slice bA k bC) k (Kg.ints ((List.range k).map Int.ofNat))) := by
        have h9 := Il.below HN.out.b (Below.alloc (Below.refl _ _) (Nat.le_refl _) (.cells #[.int .i64 (k : Int)] 3))
        unfold Il at h9
        rw [List.length_map, List.length_range] at h9
        exact h9
      have hws := HN.out.sz
      go_upto_region 7 with (at_builtin; refine wpList_append_own_at _ rfl _ _ 24 rfl w.heap.size 3 i0 (.int .i64 0) 1 8 Tryz.underlying24 HI.out.1 HI.out.2.1 HI.out.2.2.1 HI.out.2.2.2 rfl (by decide) _ _ _ rfl HRow.out ⟨w3.heap.size, 0, none⟩ 1 1 [.int .i64 (k : Int)] rfl rfl (cell_one17 _ _ _) (by simp [Value.oneCell']) (by simp only [maxLen]; omega) (by omega) (by simp; omega) ?_; intro v8 w8 h8 g8 _ e8; obtain ⟨a9, c9, rfl, d8, z8, HM⟩ := HN.out.pushB h8 g8 e8; clear h8 g8 e8 HRow)
      generalize w8.setCell ⟨A, 2, none⟩ (.slice a9 (k + 1) c9) = w4 at *
      clear d8 z8 HN hws c2
      go_wp2
      go_roundw
      case rel => exact ⟨k + 1, _, _, by simp, by omega, HM⟩
      case measure => simp [intOf]; omega
    · have hki : ¬ (k : Int) < (p : Int) := by omega
      have e9 : k = p := by omega
      subst e9
      have FIN : Hid (∃ sb bb sc bc F, Fst par k k (fun v => v) w.heap.size A sb ab bb sc k bc wr F) := R1.out.fin par h1
      have HBL : Hid (Below w.heap.size w wr) := R1.out.bl
      clear R1
      go_wp2
      go_ret
      obtain ⟨sb, bb, sc, bc, F, hf⟩ := FIN.out
      exact ⟨A, rfl, ⟨sb, ab, bb, sc, k, bc, F, hf⟩, HBL.out⟩
end Go.Proofs.YtkekaifiahjljaaGreatDoor
