import Derived.Test.YtkekaifiahjljaaGreatDoorC24
import Derived.Deep.CutBlock
set_option linter.unusedVariables false
set_option maxHeartbeats 8000000
set_option maxRecDepth 20000
namespace Go.Proofs.YtkekaifiahjljaaGreatDoor
open Go.RowKit Go.Shelf Go.Proofs.YtkekaifiahjljaaGreatDoor.Lt
theorem sum_sub (f : Nat → Nat) : ∀ (l l' : List Nat), l.Nodup → (∀ y, y ∈ l → y ∈ l') → (l.map f).sum ≤ (l'.map f).sum
  | [], l', _, _ => Nat.zero_le _
  | a :: l, l', hn, hs => by
    have ha := hs a (by simp)
    have hp := (List.perm_cons_erase ha).map f
    have h1 := hp.sum_nat
    rw [h1]
    have h2 := sum_sub f l (l'.erase a) (List.nodup_cons.1 hn).2 (fun y hy => by
      have hne : y ≠ a := fun e => (List.nodup_cons.1 hn).1 (by rw [← e]; exact hy)
      exact (List.mem_erase_of_ne hne).2 (hs y (by simp [hy])))
    simp only [List.map_cons, List.sum_cons]
    omega
theorem sum_one : ∀ l : List Nat, (l.map (fun _ => 1)).sum = l.length
  | [] => rfl
  | a :: l => by
    rw [List.map_cons, List.sum_cons, sum_one l, List.length_cons]
    omega
def Lsd (P : Nat → Prop) (j : Nat) : Prop := P j ∧ ∀ i, P i → j ≤ i
theorem Lsd.ex {P : Nat → Prop} (h : ∃ j, P j) : ∃ j, Lsd P j := by
  obtain ⟨j, hj⟩ := h
  induction j using Nat.strongRecOn with
  | _ j ih =>
    by_cases e : ∃ i, i < j ∧ P i
    · obtain ⟨i, h1, h2⟩ := e
      exact ih i h1 h2
    · exact ⟨j, hj, fun i hi => Nat.le_of_not_lt fun hl => e ⟨i, hl, hi⟩⟩
theorem epd_spec {P : Nat → Prop} (h : ∃ j, P j) : P (Classical.epsilon (Lsd P)) := (Classical.epsilon_spec (Lsd.ex h)).1
theorem epd_le {P : Nat → Prop} {j : Nat} (h : P j) : Classical.epsilon (Lsd P) ≤ j := (Classical.epsilon_spec (Lsd.ex ⟨j, h⟩)).2 j h
def Opn (W : Nat → List Nat) (ord : List Nat) (par : Nat → Nat) (s : Nat × Nat) (ok : Bool) (xs : List (Nat × Nat)) : Prop :=
  (ok = true ∧ ord = [] ∧ s = (0, 0) ∧ xs = []) ∨ (ok = true ∧ Df W ord par (s :: xs.reverse)) ∨ (ok = false ∧ Df W ord par [] ∧ xs = [])
structure Gg (m : Nat) (w : World) (A pb b : Nat) (wr : World) (S : Nat) (s : Nat × Nat) (ord : List Nat) (par : Nat → Nat) (xs : List (Nat × Nat)) (Fd Fs : List Nat) : Prop where
  h : wr.heap[S]? = some (.cells (stc s) 135 (0, 0))
  d : Dv ord ((List.range ord.length).map par) w.heap.size A pb m wr Fd
  sk : StS wr w.heap.size b xs Fs
  ap : ∀ k, k ∈ Fd → k ∉ Fs
  sd : S ∉ Fd ∧ S ∉ Fs ∧ w.heap.size ≤ S
  bl : Below w.heap.size w wr
  om : ∀ y, y ∈ ord → y < m
  sm : s.2 < m
  xm : ∀ x, x ∈ xs → x.2 < m
def GgM (W : Nat → List Nat) (m T : Nat) (w : World) (A pb b : Nat) (v6 v7 : Value) (wr : World) (j : Nat) : Prop :=
  ∃ S s ok ord par xs Fd Fs, v6 = .pointer (some ⟨S, 0, none⟩) ∧ v7 = .bool ok ∧ Gg m w A pb b wr S s ord par xs Fd Fs ∧ Opn W ord par s ok xs ∧ xs.length ≤ (ord.map (fun a => (W a).length)).sum ∧ j = (m - ord.length) * (T + 1) + xs.length + (if ok then 1 else 0)
theorem range_snoc_par (par : Nat → Nat) (n f : Nat) : (List.range (n + 1)).map (fun v => if v = n then f else par v) = (List.range n).map par ++ [f] := by
  rw [List.range_succ, List.map_append, List.map_cons, List.map_nil, if_pos rfl]
  congr 1
  refine List.map_congr_left (fun x hx => ?_)
  rw [if_neg (by have := List.mem_range.1 hx; omega)]
theorem Gg.met {m : Nat} {w : World} {A pb b : Nat} {wr w5 : World} {S : Nat} {s : Nat × Nat} {ord : List Nat} {par : Nat → Nat} {xs : List (Nat × Nat)} {Fd Fs Fd1 : List Nat} (g : Gg m w A pb b wr S s ord par xs Fd Fs)
    (d1 : Dv (ord ++ [s.2]) ((List.range ord.length).map par ++ [s.1]) w.heap.size A pb m w5 Fd1) (t1 : Kg.Touch Fd wr w5) (n1 : Kg.Newer wr.heap.size Fd Fd1) : Gg m w A pb b w5 S s (ord ++ [s.2]) (fun v => if v = ord.length then s.1 else par v) xs Fd1 Fs := by
  have hSl := Kg.heap_lt g.h
  have hDm : ∀ k, k ∈ Fd → w.heap.size ≤ k := fun k hk => by
    obtain ⟨v0, v2, hTr, rfl⟩ := g.d
    exact (hTr.mem k hk).1
  refine ⟨(t1.block S hSl g.sd.1).trans g.h, ?_, g.sk.keep t1 (fun k hk hd => g.ap k hd hk), fun k hk hs => ?_, ⟨fun hk => ?_, g.sd.2⟩, g.bl.trans (t1.below g.bl.size hDm), fun y hy => ?_, g.sm, g.xm⟩
  · rw [List.length_append, List.length_cons, List.length_nil, Nat.zero_add, range_snoc_par]
    exact d1
  · rcases n1 k hk with h1 | h1
    · exact g.ap k h1 hs
    · have := (g.sk.mem k hs).2
      omega
  · rcases n1 S hk with h1 | h1
    · exact g.sd.1 h1
    · omega
  · rcases List.mem_append.1 hy with h1 | h1
    · exact g.om y h1
    · have : y = s.2 := by simpa using h1
      rw [this]
      exact g.sm
theorem Gg.push {m : Nat} {w : World} {A pb b : Nat} {wr w5 : World} {S : Nat} {s : Nat × Nat} {ord : List Nat} {par : Nat → Nat} {xs : List (Nat × Nat)} {Fd Fs Fs1 : List Nat} (g : Gg m w A pb b wr S s ord par xs Fd Fs) {x : Nat × Nat} (hx : x.2 < m)
    (s1 : StS w5 w.heap.size b (xs ++ [x]) Fs1) (t1 : Kg.Touch Fs wr w5) (n1 : Kg.Newer wr.heap.size Fs Fs1) : Gg m w A pb b w5 S s ord par (xs ++ [x]) Fd Fs1 := by
  have hSl := Kg.heap_lt g.h
  obtain ⟨v0, v2, hTr, hFd⟩ := g.d
  have hDm : ∀ k, k ∈ Fd → k < wr.heap.size := fun k hk => by
    rw [hFd] at hk
    exact (hTr.mem k hk).2
  refine ⟨(t1.block S hSl g.sd.2.1).trans g.h, ⟨v0, v2, hTr.keep t1 (fun k hk => g.ap k (by rw [hFd]; exact hk)), hFd⟩, s1, fun k hk hs => ?_, ⟨g.sd.1, fun hk => ?_, g.sd.2.2⟩, g.bl.trans (t1.below g.bl.size (fun k hk => (g.sk.mem k hk).1)), g.om, g.sm, fun y hy => ?_⟩
  · rcases n1 k hs with h1 | h1
    · exact g.ap k hk h1
    · have := hDm k hk
      omega
  · rcases n1 S hk with h1 | h1
    · exact g.sd.2.1 h1
    · omega
  · rcases List.mem_append.1 hy with h1 | h1
    · exact g.xm y h1
    · have : y = x := by simpa using h1
      rw [this]
      exact hx
theorem Gg.room {m : Nat} {w : World} {A pb b : Nat} {wr : World} {S : Nat} {s : Nat × Nat} {ord : List Nat} {par : Nat → Nat} {xs : List (Nat × Nat)} {Fd Fs : List Nat} (g : Gg m w A pb b wr S s ord par xs Fd Fs) : Gg m w A pb b (wr.alloc (.cells (stc s) 135)) wr.heap.size s ord par xs Fd Fs := by
  have b4 := Below.alloc (Below.refl wr.heap.size wr) (Nat.le_refl _) (.cells (stc s) 135 (0, 0))
  have h4 := heap_alloc_new wr (.cells (stc s) 135 (0, 0))
  obtain ⟨v0, v2, hTr, hFd⟩ := g.d
  refine ⟨h4, ⟨v0, v2, hTr.keep (Kg.Touch.of_below b4 []) (by simp), hFd⟩, g.sk.keep (Kg.Touch.of_below b4 []) (by simp), g.ap, ⟨fun h => ?_, fun h => ?_, g.bl.size⟩, g.bl.trans (b4.mono g.bl.size), g.om, g.sm, g.xm⟩
  · rw [hFd] at h
    have := (hTr.mem _ h).2
    omega
  · have := (g.sk.mem _ h).2
    omega
theorem Gg.pop {m : Nat} {w : World} {A pb b : Nat} {wr w7 : World} {S : Nat} {s x : Nat × Nat} {ord : List Nat} {par : Nat → Nat} {xs ys : List (Nat × Nat)} {Fd Fs : List Nat} (g : Gg m w A pb b wr S s ord par xs Fd Fs) (t : Kg.Touch Fs wr w7) (st : StS w7 w.heap.size b ys Fs) (hx : x.2 < m) (hy : ∀ y, y ∈ ys → y.2 < m) :
    Gg m w A pb b ((w7.setCell ⟨S, 0, none⟩ (.int .i64 (x.1 : Nat))).setCell ⟨S, 1, none⟩ (.int .i64 (x.2 : Nat))) S x ord par ys Fd Fs := by
  have hS7 := (t.block S (Kg.heap_lt g.h) g.sd.2.1).trans g.h
  have tS : Kg.Touch [S] w7 ((w7.setCell ⟨S, 0, none⟩ (.int .i64 (x.1 : Nat))).setCell ⟨S, 1, none⟩ (.int .i64 (x.2 : Nat))) := (Kg.Touch.setCell _ _ _ (by simp)).trans (Kg.Touch.setCell _ _ _ (by simp))
  obtain ⟨v0, v2, hTr, hFd⟩ := g.d
  have h7 := hTr.keep t (fun k hk => g.ap k (by rw [hFd]; exact hk))
  refine ⟨two_set hS7 _ _, ⟨v0, v2, h7.keep tS (fun k hk hm => g.sd.1 ?_), hFd⟩, st.keep tS (fun k hk hm => g.sd.2.1 ?_), g.ap, g.sd, (g.bl.trans (t.below g.bl.size (fun k hk => (g.sk.mem k hk).1))).trans (tS.below (Nat.le_trans g.bl.size t.size) (fun k hk => ?_)), g.om, hx, hy⟩
  · rw [← List.mem_singleton.1 hm, hFd]; exact hk
  · rw [← List.mem_singleton.1 hm]; exact hk
  · rw [List.mem_singleton.1 hk]; exact g.sd.2.2
theorem Tri.new {w2 : World} {B A pb m : Nat} (h : w2.heap[A]? = some (.cells #[.slice none 0 0, .slice (some ⟨pb, 0, none⟩) m m, .slice none 0 0, .slice none 0 0] 95 (0, 0))) (hf : Fy w2 pb m (fun _ => -1)) (lo : B ≤ A ∧ B ≤ pb) (hB : B ≤ w2.heap.size) : Tri w2 B A pb m (.slice none 0 0) (.slice none 0 0) [] [] (plv []) :=
  ⟨h, World.ownsRow_nil _ _ _ _, World.ownsRow_nil _ _ _ _, hf.congr (fun x _ => by unfold plv; rw [if_neg (by simp)]), fun j h => (by simp [Value.ownBlock] at h), fun j h => (by simp [Value.ownBlock] at h), lo, hB⟩
theorem goDeep_any (n0 m T : Nat) (hT : T ≤ 1000000000) (hm0 : 1 ≤ m) (hm : m ≤ 2000000) (W : Nat → List Nat) (hWm : ∀ i, i < m → ∀ y, y ∈ W i → y < m) (hTT : ((List.range m).map (fun a => (W a).length)).sum ≤ T) (v : Value) (w : World) (hW : Wys n0 w v m W) (hn0 : n0 ≤ w.heap.size) :
    Calls Tryz.prog 59 #[v] w fun e w' => ∃ (A pb : Nat) (v0 v2 : Value) (ord : List Nat) (par : Nat → Nat) (Rb : Nat) (vs : Nat → Value) (L : Nat → List Nat), e = .returned (.pointer (some ⟨A, 0, none⟩)) ∧ Df W ord par [] ∧ (∀ y, y ∈ ord → y < m) ∧ Dw w' w.heap.size A pb m v0 v2 ord ((List.range ord.length).map par) Rb ∧ Ll w' w.heap.size Rb ord.length vs (fun q => (L q).map Int.ofNat) ∧ (∀ q x, x ∈ L q ↔ Ed W ord x q) ∧ (∀ q, (L q).length ≤ T) ∧ Below w.heap.size w w' := by
  obtain ⟨wq, wc, rfl, hwq, hwr⟩ := id hW
  have HW : Hid (Wys n0 w (.slice (some ⟨wq, 0, none⟩) m wc) m W) := hW
  have HWM : Hid (∀ i, i < m → ∀ y, y ∈ W i → y < m) := hWm
  have HTT : Hid (((List.range m).map (fun a => (W a).length)).sum ≤ T) := hTT
  have HN0 : Hid (n0 ≤ w.heap.size) := hn0
  have qn := nobodies_any m w hm0 hm
  clear hW hwr hWm hTT hn0
  go_enter Tryz.func59, Tryz.ntmps59
  go_wp2_with fail
  refine qn.mono ?_
  rintro e w1 ⟨pb, rfl, hpb, f1, b1⟩
  have b2 := Below.alloc (Below.refl w1.heap.size w1) (Nat.le_refl _) (.cells #[.slice none 0 0, .slice (some ⟨pb, 0, none⟩) m m, .slice none 0 0, .slice none 0 0] 95 (0, 0))
  have h2 := heap_alloc_new w1 (.cells #[.slice none 0 0, .slice (some ⟨pb, 0, none⟩) m m, .slice none 0 0, .slice none 0 0] 95 (0, 0))
  have hwd1 := b1.size
  have HTr : Hid (Tri (w1.alloc (.cells #[.slice none 0 0, .slice (some ⟨pb, 0, none⟩) m m, .slice none 0 0, .slice none 0 0] 95)) w.heap.size w1.heap.size pb m (.slice none 0 0) (.slice none 0 0) [] [] (plv [])) :=
    Tri.new h2 ((Fz.fy f1).touch (Kg.Touch.of_below b2 []) (by simp)) ⟨hwd1, hpb⟩ (by simp; omega)
  have HBl : Hid (Below w.heap.size w (w1.alloc (.cells #[.slice none 0 0, .slice (some ⟨pb, 0, none⟩) m m, .slice none 0 0, .slice none 0 0] 95))) := b1.trans (b2.mono hwd1)
  go_upto_region 2 with fail
  obtain ⟨A, hA⟩ : ∃ A, A = w1.heap.size := ⟨_, rfl⟩
  rw [← hA] at HTr hwd1 ⊢
  clear qn f1 b1 b2 h2 hA
  generalize w1.alloc (.cells #[.slice none 0 0, .slice (some ⟨pb, 0, none⟩) m m, .slice none 0 0, .slice none 0 0] 95) = w2 at *
  have qs := newstackS_any w2
  obtain ⟨b, hb⟩ : ∃ b, b = w2.heap.size := ⟨_, rfl⟩
  rw [← hb] at qs
  go_wp2_with fail
  refine qs.mono ?_
  rintro e w3 ⟨rfl, q3, t3, s3⟩
  have HD3 : Hid (Dv [] ((List.range 0).map (fun _ => 0)) w.heap.size A pb m w3 (triF A pb (.slice none 0 0) (.slice none 0 0))) := ⟨_, _, HTr.out.keep t3 (by simp), rfl⟩
  have HB3 : Hid (Below w.heap.size w w3) := HBl.out.trans (t3.below HBl.out.size (fun k hk => by simp at hk))
  have HS3 : Hid (StS w3 w.heap.size b [] [b] ∧ b < w3.heap.size ∧ A < b ∧ pb < b ∧ w.heap.size ≤ b) := by
    obtain ⟨vv, g1, g2, g3, g4⟩ := q3
    have hsz : w.heap.size ≤ b := by rw [hb]; exact HBl.out.size
    refine ⟨⟨vv, g1, hsz, Kg.row_base g3 hsz, g4⟩, Kg.heap_lt g1, by rw [hb]; exact Kg.heap_lt HTr.out.h, by rw [hb]; exact HTr.out.a.lt, hsz⟩
  clear qs q3 t3 s3 hb HTr HBl
  go_upto_region 4 with fail
  have hS := HS3.out
  have b4 := Below.alloc (Below.refl w3.heap.size w3) (Nat.le_refl _) (.cells #[.int .i64 0, .int .i64 0] 135 (0, 0))
  have h4 := heap_alloc_new w3 (.cells #[.int .i64 0, .int .i64 0] 135 (0, 0))
  have HG0 : Hid (Gg m w A pb b (w3.alloc (.cells #[.int .i64 0, .int .i64 0] 135)) w3.heap.size (0, 0) [] (fun _ => 0) [] (triF A pb (.slice none 0 0) (.slice none 0 0)) [b]) := by
    obtain ⟨v0, v2, hTr, hF⟩ := HD3.out
    have hm3 := hTr.mem
    rw [← hF] at hm3
    have hmem : ∀ k, k ∈ triF A pb (.slice none 0 0) (.slice none 0 0) → k = A ∨ k = pb := fun k hk => by simpa [triF, Value.ownBlock] using hk
    refine ⟨h4, ⟨v0, v2, hTr.keep (Kg.Touch.of_below b4 []) (by simp), hF⟩, hS.1.keep (Kg.Touch.of_below b4 []) (by simp), fun k hk hb => ?_, ⟨fun h => ?_, ?_, HB3.out.size⟩, HB3.out.trans (b4.mono HB3.out.size), by simp, by show 0 < m; omega, by simp⟩
    · have hb' : k = b := by simpa using hb
      rcases hmem k hk with h | h <;> omega
    · have := (hm3 _ h).2
      omega
    · have := hS.2.1
      simp
      omega
  clear b4 h4 hS HD3 HS3 HB3
  obtain ⟨S0, hS0⟩ : ∃ S0, S0 = w3.heap.size := ⟨_, rfl⟩
  rw [← hS0] at HG0 ⊢
  clear hS0
  generalize w3.alloc (.cells #[.int .i64 0, .int .i64 0] 135) = w4 at *
  go_loopw [6, 7, 8, 10] (fun v6 v7 _ _ wr => ∃ j, GgM W m T w A pb b v6 v7 wr j) (fun v6 v7 _ _ wr => Classical.epsilon (Lsd (GgM W m T w A pb b v6 v7 wr)))
  case atStart => exact ⟨_, S0, (0, 0), true, [], _, [], _, _, rfl, rfl, HG0.out, .inl ⟨rfl, rfl, rfl, rfl⟩, Nat.zero_le _, rfl⟩
  case round =>
    obtain ⟨j0, hj0⟩ : ∃ j0, j0 = Classical.epsilon (Lsd (GgM W m T w A pb b u6 u7 wr)) := ⟨_, rfl⟩
    have h9 := epd_spec hrel
    rw [← hj0] at h9
    have HJ : Hid (j0 = Classical.epsilon (Lsd (GgM W m T w A pb b u6 u7 wr))) := hj0
    clear hj0 hrel
    obtain ⟨S, s, ok, ord, par, xs, Fd, Fs, rfl, rfl, g, gop, gx, gj⟩ := h9
    have G : Hid (Gg m w A pb b wr S s ord par xs Fd Fs) := g
    have GO : Hid (Opn W ord par s ok xs) := gop
    have GJ : Hid (j0 = (m - ord.length) * (T + 1) + xs.length + (if ok then 1 else 0)) := gj
    have GX : Hid (xs.length ≤ (ord.map (fun a => (W a).length)).sum) := gx
    clear g gop gx gj
    cases ok with
    | false =>
      have hDf : Df W ord par [] := by
        rcases GO.out with h | h | h
        · exact absurd h.1 (by decide)
        · exact absurd h.1 (by decide)
        · exact h.2.1
      have hsub : ∀ y, y ∈ ord → y ∈ List.range m := fun y hy => List.mem_range.2 (G.out.om y hy)
      have hlen : ord.length ≤ m := by
        have h1 := sum_sub (fun _ => 1) ord (List.range m) hDf.nd hsub
        rw [sum_one, sum_one, List.length_range] at h1
        exact h1
      have h0 : 0 < ord.length := (List.getElem?_eq_some_iff.1 hDf.z).1
      obtain ⟨v0, v2, hTr, -⟩ := G.out.d
      have qs := lookBack_any n0 m T hT hm W (.slice (some ⟨wq, 0, none⟩) m wc) w.heap.size A pb v0 v2 ord ((List.range ord.length).map par) hDf.nd h0 hlen G.out.om (fun a ha b' hb' => by
          obtain ⟨u, hu⟩ := List.getElem?_of_mem ha
          rcases hDf.i3 u a hu b' hb' with h1 | h1
          · exact h1
          · simp at h1) (fun k => Nat.le_trans (sum_sub _ _ _ (hDf.nd.sublist (List.take_sublist k ord)) (fun y hy => hsub y (List.mem_of_mem_take hy))) HTT.out) wr hTr (HW.out.below (G.out.bl.mono HN0.out)) HN0.out
      have HDf : Hid (Df W ord par []) := hDf
      have HTM : Hid (∀ k, k ∈ triF A pb v0 v2 → w.heap.size ≤ k ∧ k < wr.heap.size) := hTr.mem
      clear hDf hsub hlen h0 hTr
      go_upto_region 16 with fail
      go_wp2_with fail
      refine qs.mono ?_
      rintro e w5 ⟨rfl, Rb, vs, L, d1, l1, m1, m2, t1⟩
      have HFN : Hid (∃ (pb : Nat) (v0 v2 : Value) (ord : List Nat) (par : Nat → Nat) (Rb : Nat) (vs : Nat → Value) (L : Nat → List Nat), Df W ord par [] ∧ (∀ y, y ∈ ord → y < m) ∧ Dw w5 w.heap.size A pb m v0 v2 ord ((List.range ord.length).map par) Rb ∧ Ll w5 w.heap.size Rb ord.length vs (fun q => (L q).map Int.ofNat) ∧ (∀ q x, x ∈ L q ↔ Ed W ord x q) ∧ (∀ q, (L q).length ≤ T) ∧ Below w.heap.size w w5) := by
        have hbs := G.out.bl.size
        refine ⟨pb, v0, v2, ord, par, Rb, vs, L, HDf.out, G.out.om, d1, ⟨l1.h, fun i hi => Kg.row_base (l1.l i hi) hbs, l1.d, Nat.le_trans hbs l1.lo⟩, m1, m2, G.out.bl.trans (t1.below hbs (fun k hk => ?_))⟩
        have hk' : k = A := by simpa using hk
        rw [hk']
        exact (HTM.out A (by simp [triF])).1
      clear qs d1 l1 m1 m2 t1 HDf G HTM
      go_wp2
      go_ret
      obtain ⟨pb, v0, v2, ord, par, Rb, vs, L, f1, f2, f3, f4, f5, f6, f7⟩ := HFN.out
      exact ⟨A, pb, v0, v2, ord, par, Rb, vs, L, rfl, f1, f2, f3, f4, f5, f6, f7⟩
    | true =>
      have HJ0 : Hid (j0 = (m - ord.length) * (T + 1) + xs.length + 1) := by
        have h := GJ.out
        rw [if_pos rfl] at h
        exact h
      clear GJ
      obtain ⟨v0, v2, hTr, hFd⟩ := G.out.d
      have c1 := Kg.heap_cell hTr.h 1
      have k0 := Kg.heap_cell G.out.h 0
      have k1 := Kg.heap_cell G.out.h 1
      simp only [List.getElem?_toArray, List.getElem?_cons_zero, List.getElem?_cons_succ] at c1 k0 k1
      have cp := hTr.a.cell G.out.sm
      have hsi : (s.2 : Int) < (m : Int) := by have := G.out.sm; omega
      clear hTr hFd
      go_upto_block 1 with fail
      go_cut [8, 10] from 27 to 62 (fun _ _ wq => ∃ (ord' : List Nat) (par' : Nat → Nat) (xs' : List (Nat × Nat)) (Fd' Fs' : List Nat), Hid (Gg m w A pb b wq S s ord' par' xs' Fd' Fs') ∧ Hid (Df W ord' par' xs'.reverse) ∧ Hid (xs'.length ≤ (ord'.map (fun a => (W a).length)).sum) ∧ Hid ((m - ord'.length) * (T + 1) + xs'.length < j0))
      case first =>
        by_cases hmt : s.2 ∈ ord
        · have g1 : (plv ord s.2 != -1) = true := bne_iff_ne.2 (fun h => plv_neg.1 h hmt)
          generalize plv ord s.2 = z at *
          go_upto_region 6 with fail
          go_quiet (fail)
          have HR : Hid (∃ (ord' : List Nat) (par' : Nat → Nat) (xs' : List (Nat × Nat)) (Fd' Fs' : List Nat), Hid (Gg m w A pb b (wr.drewN nq) S s ord' par' xs' Fd' Fs') ∧ Hid (Df W ord' par' xs'.reverse) ∧ Hid (xs'.length ≤ (ord'.map (fun a => (W a).length)).sum) ∧ Hid ((m - ord'.length) * (T + 1) + xs'.length < j0)) := by
            have g := G.out
            have td := Kg.Touch.drewN [] wr nq
            obtain ⟨v0, v2, hTr, hFd⟩ := g.d
            refine ⟨ord, par, xs, Fd, Fs, ⟨g.h, ⟨v0, v2, hTr.keep td (by simp), hFd⟩, g.sk.keep td (by simp), g.ap, g.sd, g.bl.trans (td.below g.bl.size (by simp)), g.om, g.sm, g.xm⟩, ?_, GX.out, ?_⟩
            · show Df _ _ _ _
              rcases GO.out with h | h | h
              · rw [h.2.1] at hmt
                simp at hmt
              · exact Df.skip (f := s.1) (t := s.2) h.2 hmt
              · exact absurd h.1 (by decide)
            · have h := HJ0.out
              show _ < j0
              omega
          go_wp2
          go_meet
          case rel => exact HR.out
        · rw [plv_neg.2 hmt] at cp
          have hom : ord.length ≤ m := by
            have hnd : ord.Nodup := by
              rcases GO.out with h | h | h
              · rw [h.2.1]; exact List.nodup_nil
              · exact h.2.nd
              · exact absurd h.1 (by decide)
            have h1 := sum_sub (fun _ => 1) ord (List.range m) hnd (fun y hy => List.mem_range.2 (G.out.om y hy))
            rw [sum_one, sum_one, List.length_range] at h1
            exact h1
          have HMT : Hid (s.2 ∉ ord) := hmt
          have HSM : Hid (s.2 < m) := G.out.sm
          go_upto_region 6 with fail
          go_quiet (fail)
          have hGd : Dv ord ((List.range ord.length).map par) w.heap.size A pb m (wr.drewN nq) Fd := by
            obtain ⟨v0, v2, hTr, hFd⟩ := G.out.d
            exact ⟨v0, v2, hTr.keep (Kg.Touch.drewN [] wr nq) (by simp), hFd⟩
          have qm := meet_any w.heap.size A pb m hm ord ((List.range ord.length).map par) hom (by rw [List.length_map, List.length_range]; exact hom) s HSM.out HMT.out (wr.drewN nq) Fd hGd
          clear hGd
          go_upto_region 7 with fail
          go_wp2_with fail
          refine qm.mono ?_
          rintro e w5 ⟨rfl, Fd1, d1, t1, n1⟩
          have HG5 : Hid (Gg m w A pb b w5 S s (ord ++ [s.2]) (fun v => if v = ord.length then s.1 else par v) xs Fd1 Fs) := G.out.met d1 ((Kg.Touch.drewN _ _ _).trans t1) n1
          clear qm d1 t1 n1 c1 k0 k1 cp
          have k1 := Kg.heap_cell HG5.out.h 1
          simp only [List.getElem?_toArray, List.getElem?_cons_zero, List.getElem?_cons_succ] at k1
          obtain ⟨wq', wc', ew, -, hwr⟩ := HW.out
          cases ew
          obtain ⟨u, cu0, lu⟩ := hwr s.2 HSM.out
          obtain ⟨ua, uc, eu, -, -⟩ := id lu
          rw [List.length_map] at eu
          subst eu
          have LU : Hid (Lrd n0 w (.slice ua (W s.2).length uc) .i64 ((W s.2).map Int.ofNat)) := lu
          have cu := (HG5.out.bl.cell (p := ⟨wq, s.2, none⟩) (Nat.lt_of_lt_of_le hwq HN0.out)).trans cu0
          clear hwr lu cu0
          have HND : Hid ord.Nodup := by
            rcases GO.out with h | h | h
            · show ord.Nodup
              rw [h.2.1]; exact List.nodup_nil
            · exact h.2.nd
            · exact absurd h.1 (by decide)
          have HWT : Hid ((W s.2).length ≤ 1000000000 ∧ xs.length ≤ 1000000000) := by
            have h1 := sum_sub (fun a => (W a).length) [s.2] (List.range m) (by simp) (fun y hy => by rw [List.mem_singleton.1 hy]; exact List.mem_range.2 HSM.out)
            have h2 := HTT.out
            simp only [List.map_cons, List.map_nil, List.sum_cons, List.sum_nil] at h1
            have h3 := sum_sub (fun a => (W a).length) ord (List.range m) HND.out (fun y hy => List.mem_range.2 (G.out.om y hy))
            have h4 := GX.out
            exact ⟨by omega, by omega⟩
          go_upto_region 9 with fail
          go_loopw [10, 45] (fun _ v45 wq => ∃ (j : Nat) (P : List Nat) (Fs1 : List Nat), v45 = .int .i64 (j : Nat) ∧ j ≤ (W s.2).length ∧ Hid (Gg m w A pb b wq S s (ord ++ [s.2]) (fun v => if v = ord.length then s.1 else par v) (xs ++ P.map (fun t => (ord.length, t))) Fd1 Fs1) ∧ Hid (∀ t, t ∈ P → t ∈ W s.2) ∧ Hid (∀ t, t ∈ (W s.2).take j → t ∉ ord ++ [s.2] → t ∈ P) ∧ Hid (P.length ≤ j)) (fun _ v45 _ => (W s.2).length - (intOf v45).toNat)
          case atStart => exact ⟨0, [], Fs, rfl, Nat.zero_le _, by show Gg _ _ _ _ _ _ _ _ _ _ (xs ++ []) _ _; rw [List.append_nil]; exact HG5.out, fun t h => by simp at h, fun t h => by simp at h, Nat.le_refl _⟩
          case round =>
            obtain ⟨j, P, Fs1, rfl, hj, Q1, Q2, Q3, Q4⟩ := hrel
            by_cases hjl : j < (W s.2).length
            · have hji : (j : Int) < ((W s.2).length : Int) := by omega
              obtain ⟨t, ht⟩ : ∃ t, (W s.2)[j]? = some t := ⟨_, List.getElem?_eq_getElem hjl⟩
              have htm := HWM.out s.2 HSM.out t (List.mem_of_getElem? ht)
              have hti : (t : Int) < (m : Int) := by omega
              have HTj : Hid ((W s.2)[j]? = some t) := ht
              obtain ⟨ua', uc', eu', -, hlu⟩ := LU.out.below (Q1.out.bl.mono HN0.out)
              rw [List.length_map] at eu'
              simp only [Value.slice.injEq, true_and] at eu'
              obtain ⟨rfl, rfl⟩ := eu'
              obtain ⟨g, off, rfl, -, cg⟩ := hlu j (t : Nat) (by rw [List.getElem?_map, ht]; rfl)
              obtain ⟨v0', v2', hTr', hFd'⟩ := Q1.out.d
              have c1 := Kg.heap_cell hTr'.h 1
              simp only [List.getElem?_toArray, List.getElem?_cons_zero, List.getElem?_cons_succ] at c1
              have cp := hTr'.a.cell htm
              clear hTr' hFd' hlu ht cu k1
              have ht1 : (W s.2).take (j + 1) = (W s.2).take j ++ [t] := by rw [List.take_add_one, HTj.out]; rfl
              have hWT := HWT.out
              have hPj := Q4.out
              by_cases hto : t ∈ ord ++ [s.2]
              · have g2 : (plv (ord ++ [s.2]) t == -1) = false := beq_eq_false_iff_ne.2 (fun h => plv_neg.1 h hto)
                generalize plv (ord ++ [s.2]) t = z at *
                have HQ3 : Hid (∀ t', t' ∈ (W s.2).take (j + 1) → t' ∉ ord ++ [s.2] → t' ∈ P) := fun t' h1 h2 => by
                  rw [ht1] at h1
                  rcases List.mem_append.1 h1 with h3 | h3
                  · exact Q3.out t' h3 h2
                  · rw [List.mem_singleton.1 h3] at h2
                    exact absurd hto h2
                have HQ4 : Hid (P.length ≤ j + 1) := Nat.le_succ_of_le hPj
                clear ht1 hto
                go_wp2
                go_roundw
                case rel => exact ⟨j + 1, P, Fs1, by simp, by omega, Q1, Q2, HQ3, HQ4⟩
                case measure => simp [intOf]; omega
              · rw [plv_neg.2 hto] at cp
                have qp := pushS_any b w.heap.size (ord.length, t) (xs ++ P.map (fun t => (ord.length, t))) Fs1 wr Q1.out.sk Q1.out.bl.size (by rw [List.length_append, List.length_map]; omega)
                have HTm : Hid (t < m) := htm
                have HQ2 : Hid (∀ t', t' ∈ P ++ [t] → t' ∈ W s.2) := fun t' h1 => by
                  rcases List.mem_append.1 h1 with h3 | h3
                  · exact Q2.out t' h3
                  · rw [List.mem_singleton.1 h3]
                    exact List.mem_of_getElem? HTj.out
                have HQ3 : Hid (∀ t', t' ∈ (W s.2).take (j + 1) → t' ∉ ord ++ [s.2] → t' ∈ P ++ [t]) := fun t' h1 h2 => by
                  rw [ht1] at h1
                  rcases List.mem_append.1 h1 with h3 | h3
                  · exact List.mem_append_left _ (Q3.out t' h3 h2)
                  · exact List.mem_append_right _ h3
                have HQ4 : Hid ((P ++ [t]).length ≤ j + 1) := by
                  show _ ≤ _
                  rw [List.length_append, List.length_cons, List.length_nil]
                  omega
                clear ht1 hto htm
                go_upto_region 12 with fail
                go_wp2_with fail
                refine qp.mono ?_
                rintro e w6 ⟨rfl, Fs2, s2, t2, n2⟩
                have HQ1 : Hid (Gg m w A pb b w6 S s (ord ++ [s.2]) (fun v => if v = ord.length then s.1 else par v) (xs ++ (P ++ [t]).map (fun t => (ord.length, t))) Fd1 Fs2) := by
                  have h9 := Q1.out.push HTm.out s2 t2 n2
                  rw [List.append_assoc] at h9
                  show Gg _ _ _ _ _ _ _ _ _ _ (xs ++ (P ++ [t]).map _) _ _
                  rw [List.map_append]
                  exact h9
                clear qp s2 t2 n2 Q1 Q2 Q3 Q4 c1 cp cg
                go_wp2
                go_roundw
                case rel => exact ⟨j + 1, P ++ [t], Fs2, by simp, by omega, HQ1, HQ2, HQ3, HQ4⟩
                case measure => simp [intOf]; omega
            · have hji : ¬ (j : Int) < ((W s.2).length : Int) := by omega
              have e9 : (W s.2).take j = W s.2 := List.take_of_length_le (by omega)
              have hWT : (W s.2).length ≤ T := by
                have h1 := sum_sub (fun a => (W a).length) [s.2] (List.range m) (by simp) (fun y hy => by rw [List.mem_singleton.1 hy]; exact List.mem_range.2 HSM.out)
                have h2 := HTT.out
                simp only [List.map_cons, List.map_nil, List.sum_cons, List.sum_nil] at h1
                omega
              have hol : ord.length + 1 ≤ m := by
                have h1 := sum_sub (fun _ => 1) (ord ++ [s.2]) (List.range m) (by
                  have hnd : ord.Nodup := by
                    rcases GO.out with h | h | h
                    · rw [h.2.1]; exact List.nodup_nil
                    · exact h.2.nd
                    · exact absurd h.1 (by decide)
                  rw [List.nodup_append]
                  exact ⟨hnd, by simp, fun a ha b hb => by rw [List.mem_singleton.1 hb]; exact fun e => HMT.out (by rw [← e]; exact ha)⟩) (fun y hy => List.mem_range.2 (Q1.out.om y hy))
                rw [sum_one, sum_one, List.length_range, List.length_append] at h1
                exact h1
              have hcount : (m - (ord ++ [s.2]).length) * (T + 1) + (xs ++ P.map (fun t => (ord.length, t))).length < j0 := by
                have h1 := HJ0.out
                have h2 := Q4.out
                rw [List.length_append, List.length_append, List.length_map]
                simp only [List.length_cons, List.length_nil, Nat.zero_add]
                have e : m - ord.length = (m - (ord.length + 1)) + 1 := by omega
                rw [e, Nat.succ_mul] at h1
                omega
              have hxl : (xs ++ P.map (fun t => (ord.length, t))).length ≤ ((ord ++ [s.2]).map (fun a => (W a).length)).sum := by
                have h1 := GX.out
                have h2 := Q4.out
                rw [List.length_append, List.length_map, List.map_append, List.sum_append]
                simp only [List.map_cons, List.map_nil, List.sum_cons, List.sum_nil]
                omega
              have HR : Hid (∃ (ord' : List Nat) (par' : Nat → Nat) (xs' : List (Nat × Nat)) (Fd' Fs' : List Nat), Hid (Gg m w A pb b wr S s ord' par' xs' Fd' Fs') ∧ Hid (Df W ord' par' xs'.reverse) ∧ Hid (xs'.length ≤ (ord'.map (fun a => (W a).length)).sum) ∧ Hid ((m - ord'.length) * (T + 1) + xs'.length < j0)) := by
                have hn1 : ∀ x, x ∈ (P.map (fun t => (ord.length, t))).reverse → x.1 = ord.length ∧ x.2 ∈ W s.2 := fun x hx => by
                  obtain ⟨t, ht, rfl⟩ := List.mem_map.1 (List.mem_reverse.1 hx)
                  exact ⟨rfl, Q2.out t ht⟩
                have hn2 : ∀ t', t' ∈ W s.2 → t' ∉ ord ++ [s.2] → (ord.length, t') ∈ (P.map (fun t => (ord.length, t))).reverse := fun t' h1 h2 => List.mem_reverse.2 (List.mem_map.2 ⟨t', Q3.out t' (by rw [e9]; exact h1) h2, rfl⟩)
                rcases GO.out with h | h | h
                · obtain ⟨-, h1, h2, h3⟩ := h
                  subst h1 h2 h3
                  refine ⟨_, fun _ => 0, _, Fd1, Fs1, ⟨Q1.out.h, ?_, Q1.out.sk, Q1.out.ap, Q1.out.sd, Q1.out.bl, Q1.out.om, Q1.out.sm, Q1.out.xm⟩, ?_, hxl, hcount⟩
                  · exact Q1.out.d
                  · show Df W [0] _ _
                    rw [List.nil_append]
                    exact Df.start hn1 (fun t h4 h5 => hn2 t h4 (by simpa using h5))
                · refine ⟨_, _, _, Fd1, Fs1, Q1.out, ?_, hxl, hcount⟩
                  show Df _ _ _ _
                  rw [List.reverse_append]
                  exact Df.step (f := s.1) (t := s.2) h.2 HMT.out hn1 hn2
                · exact absurd h.1 (by decide)
              clear hcount hxl
              go_wp2
              go_meet
              case rel => exact HR.out
      case rest =>
        obtain ⟨ord1, par1, xs1, Fd1, Fs1, R1, R2, R3, R4⟩ := hcut
        clear c1 k0 k1 cp HJ0 GO GX G
        have k0 := Kg.heap_cell R1.out.h 0
        have k1 := Kg.heap_cell R1.out.h 1
        simp only [List.getElem?_toArray, List.getElem?_cons_zero, List.getElem?_cons_succ] at k0 k1
        have HM9 : Hid (∀ k, k ∈ Fs1 → k ≠ wc.heap.size) := fun k hk e => by have := (R1.out.sk.mem k hk).2; omega
        have HG6 : Hid (Gg m w A pb b (wc.alloc (.cells (stc s) 135)) wc.heap.size s ord1 par1 xs1 Fd1 Fs1) := R1.out.room
        have h6c : (wc.alloc (.cells (stc s) 135)).heap.size = wc.heap.size + 1 := by simp
        go_upto_region 5 with fail
        clear k0 k1 R1
        obtain ⟨S2, hS2⟩ : ∃ S2, S2 = wc.heap.size := ⟨_, rfl⟩
        change Code.wp _ _ _ _ (wc.alloc (.cells (stc s) 135))
        rw [← hS2] at HG6 h6c ⊢
        clear hS2 HM9
        generalize wc.alloc (.cells (stc s) 135) = w6 at *
        have hxl : xs1.length < 10000000000 := by
          have h1 := R3.out
          have h3 := sum_sub (fun a => (W a).length) ord1 (List.range m) R2.out.nd (fun y hy => List.mem_range.2 (HG6.out.om y hy))
          have h4 := HTT.out
          omega
        rcases List.eq_nil_or_concat xs1 with rfl | ⟨ys, x, rfl⟩
        · have qp := popS_none b w.heap.size Fs1 w6 HG6.out.sk
          go_wp2_with fail
          refine qp.mono ?_
          rintro e w7 ⟨rfl, s7, b7⟩
          have HG7 : Hid (Gg m w A pb b ((w7.setCell ⟨S2, 0, none⟩ (.int .i64 0)).setCell ⟨S2, 1, none⟩ (.int .i64 0)) S2 (0, 0) ord1 par1 [] Fd1 Fs1) := HG6.out.pop (x := (0, 0)) (Kg.Touch.of_below b7 Fs1) s7 (by show 0 < m; omega) (by simp)
          have h7 := (b7.block S2 (by omega)).trans HG6.out.h
          have c70 := Kg.heap_cell h7 0
          have c71 := Kg.heap_cell h7 1
          have z70 := Kg.heap_frozen h7 0
          have z71 := Kg.heap_frozen h7 1
          simp only [List.getElem?_toArray, List.getElem?_cons_zero, List.getElem?_cons_succ] at c70 c71
          clear qp s7 b7 h7
          have HM : Hid (GgM W m T w A pb b (.pointer (some ⟨S2, 0, none⟩)) (.bool false) ((w7.setCell ⟨S2, 0, none⟩ (.int .i64 0)).setCell ⟨S2, 1, none⟩ (.int .i64 0)) ((m - ord1.length) * (T + 1) + ([] : List (Nat × Nat)).length + 0)) :=
            ⟨S2, (0, 0), false, ord1, par1, [], Fd1, Fs1, rfl, rfl, HG7.out, .inr (.inr ⟨rfl, R2.out, rfl⟩), R3.out, rfl⟩
          clear HG7 HG6 R2 R3
          go_wp2
          refine ⟨⟨_, HM.out⟩, ?_⟩
          rw [← HJ.out]
          exact Nat.lt_of_le_of_lt (epd_le HM.out) R4.out
        · rw [List.length_concat] at hxl
          rw [List.concat_eq_append] at HG6 R2 R3 R4
          have hx := HG6.out.xm x (by simp)
          have qp := popS_any b w.heap.size x ys Fs1 w6 HG6.out.sk (by omega)
          go_wp2_with fail
          refine qp.mono ?_
          rintro e w7 ⟨rfl, s7, t7⟩
          have HG7 : Hid (Gg m w A pb b ((w7.setCell ⟨S2, 0, none⟩ (.int .i64 (x.1 : Nat))).setCell ⟨S2, 1, none⟩ (.int .i64 (x.2 : Nat))) S2 x ord1 par1 ys Fd1 Fs1) := HG6.out.pop t7 s7 hx (fun y hy => HG6.out.xm y (by simp [hy]))
          have h7 := (t7.block S2 (by omega) HG6.out.sd.2.1).trans HG6.out.h
          have c70 := Kg.heap_cell h7 0
          have c71 := Kg.heap_cell h7 1
          have z70 := Kg.heap_frozen h7 0
          have z71 := Kg.heap_frozen h7 1
          simp only [List.getElem?_toArray, List.getElem?_cons_zero, List.getElem?_cons_succ] at c70 c71
          have HM : Hid (GgM W m T w A pb b (.pointer (some ⟨S2, 0, none⟩)) (.bool true) ((w7.setCell ⟨S2, 0, none⟩ (.int .i64 (x.1 : Nat))).setCell ⟨S2, 1, none⟩ (.int .i64 (x.2 : Nat))) ((m - ord1.length) * (T + 1) + ys.length + 1)) := by
            refine ⟨S2, x, true, ord1, par1, ys, Fd1, Fs1, rfl, rfl, HG7.out, .inr (.inl ⟨rfl, ?_⟩), ?_, rfl⟩
            · have h9 := R2.out
              rw [List.reverse_append] at h9
              exact h9
            · have h9 := R3.out
              rw [List.length_append] at h9
              omega
          have HR4 : Hid ((m - ord1.length) * (T + 1) + ys.length + 1 < j0) := by
            have h9 := R4.out
            rw [List.length_append, List.length_cons, List.length_nil] at h9
            show _ < _
            omega
          clear qp s7 t7 h7 HG7 HG6 R2 R3 R4
          go_wp2
          refine ⟨⟨_, HM.out⟩, ?_⟩
          rw [← HJ.out]
          exact Nat.lt_of_le_of_lt (epd_le HM.out) HR4.out
end Go.Proofs.YtkekaifiahjljaaGreatDoor
