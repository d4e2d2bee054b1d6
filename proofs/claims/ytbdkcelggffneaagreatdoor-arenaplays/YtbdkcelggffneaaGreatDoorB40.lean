/-
  A pair of arenas with its walks: the blocks that it has, and any step.
-/
import Derived.Test.YtbdkcelggffneaaGreatDoorB39
import Derived.Test.YtbdkcelggffneaaGreatDoorB22
set_option linter.unusedVariables false
set_option maxRecDepth 20000
namespace Go.Proofs.YtbdkcelggffneaaGreatDoor
open Go.RowKit Go.Shelf

/-- The blocks that a step may touch. -/
def cft (p a h r : Nat) (g : Nat → Nat) (v2 v3 : Value) : List Nat := p :: a :: h :: (rft r g ++ (v2.ownBlock.toList ++ v3.ownBlock.toList))

/-- The blocks of the walks' variables. -/
def wft (ks : List Wlk) : List Nat := ks.flatMap fun k => [k.ca, k.cs]

/-- A pair: its arenas, its walks, all in blocks of their own. -/
structure Pq (W : World) (base p a h r : Nat) (g : Nat → Nat) (c : Cfg) (x : Tps) (sw : Bool) (ws : Nat → Int) (ks : List Wlk) (v2 v3 : Value) : Prop where
  bx : Bx W p a h r g c x sw ws
  kp : Kept W p a r base ks v2 v3
  sr : ∀ q, (v2.ownBlock = some q ∨ v3.ownBlock = some q) → q ∉ p :: a :: h :: rft r g
  sw_ : ∀ q, q ∈ wft ks → q ∉ cft p a h r g v2 v3
  ge : ∀ q, q ∈ p :: a :: h :: rft r g → base ≤ q
  tb : 1 < base ∧ 0 < base

def Pr (W : World) (base p : Nat) (c : Cfg) (F : List Nat) : Prop := ∃ a h r g x sw ws ks v2 v3, Pq W base p a h r g c x sw ws ks v2 v3 ∧ F = cft p a h r g v2 v3 ++ wft ks

theorem mem_cft {p a h r q : Nat} {g : Nat → Nat} {v2 v3 : Value} : q ∈ cft p a h r g v2 v3 ↔ q ∈ p :: a :: h :: rft r g ∨ v2.ownBlock = some q ∨ v3.ownBlock = some q := by
  simp only [cft, List.mem_cons, List.mem_append, Option.mem_toList]
  constructor
  · rintro (h | h | h | h | h | h)
    · exact .inl (.inl h)
    · exact .inl (.inr (.inl h))
    · exact .inl (.inr (.inr (.inl h)))
    · exact .inl (.inr (.inr (.inr h)))
    · exact .inr (.inl h)
    · exact .inr (.inr h)
  · rintro ((h | h | h | h) | h | h)
    · exact .inl h
    · exact .inr (.inl h)
    · exact .inr (.inr (.inl h))
    · exact .inr (.inr (.inr (.inl h)))
    · exact .inr (.inr (.inr (.inr (.inl h))))
    · exact .inr (.inr (.inr (.inr (.inr h))))

theorem mem_wft {ks : List Wlk} {q : Nat} : q ∈ wft ks ↔ ∃ k, k ∈ ks ∧ (q = k.ca ∨ q = k.cs) := by
  simp [wft, List.mem_flatMap]

section
variable {W W' : World} {base p a h r : Nat} {g : Nat → Nat} {c : Cfg} {x : Tps} {sw : Bool} {ws : Nat → Int} {ks : List Wlk} {v2 v3 : Value}

theorem Pq.arena (H : Pq W base p a h r g c x sw ws ks v2 v3) : ∀ q, q ∈ p :: a :: h :: rft r g → base ≤ q ∧ q < W.heap.size := fun q hq => by
  refine ⟨H.ge q hq, ?_⟩
  rcases List.mem_cons.1 hq with rfl | hq
  · exact H.bx.bo.own.lt
  rcases List.mem_cons.1 hq with rfl | hq
  · exact H.bx.bo.ar.own.lt
  rcases List.mem_cons.1 hq with rfl | hq
  · exact H.bx.bo.ar.row.lt
  · simp only [rft, List.mem_cons, List.not_mem_nil, or_false] at hq
    rcases hq with rfl | rfl | rfl | rfl | rfl
    · exact H.bx.bo.ra.own.lt
    · exact (H.bx.bo.ra.row 1 (by omega) (by omega)).lt
    · exact (H.bx.bo.ra.row 2 (by omega) (by omega)).lt
    · exact (H.bx.bo.ra.row 3 (by omega) (by omega)).lt
    · exact (H.bx.bo.ra.row 4 (by omega) (by omega)).lt

theorem Pq.mem (H : Pq W base p a h r g c x sw ws ks v2 v3) : ∀ q, q ∈ cft p a h r g v2 v3 ++ wft ks → base ≤ q ∧ q < W.heap.size := fun q hq => by
  rcases List.mem_append.1 hq with hq | hq
  · rcases mem_cft.1 hq with hq | hq | hq
    · exact H.arena q hq
    · exact ⟨own_ge H.kp.r2 q hq, row_lt H.kp.r2 q hq⟩
    · exact ⟨own_ge H.kp.r3 q hq, row_lt H.kp.r3 q hq⟩
  · obtain ⟨k, hk, rfl | rfl⟩ := mem_wft.1 hq
    · exact ⟨(H.kp.ca k hk).2, World.block_lt_of_cell? _ _ (H.kp.ca k hk).1⟩
    · exact ⟨(H.kp.cs k hk).2, World.block_lt_of_cell? _ _ (H.kp.cs k hk).1⟩

theorem Kept.touch {G : List Nat} (H : Kept W p a r base ks v2 v3) (t : Touch G W W') (hp : p ∉ G) (hr : ∀ q, (v2.ownBlock = some q ∨ v3.ownBlock = some q) → q ∉ G) (hw : ∀ q, q ∈ wft ks → q ∉ G) : Kept W' p a r base ks v2 v3 := by
  have hpl : p < W.heap.size := (Array.getElem?_eq_some_iff.1 H.pb).1
  have cl : ∀ {q : Nat} {u : Value}, q ∉ G → W.cell? ⟨q, 0, none⟩ = some u → W'.cell? ⟨q, 0, none⟩ = some u := fun hn hq => (World.cell?_of_block (w := W) (t.block _ (World.block_lt_of_cell? _ _ hq) hn)).trans hq
  exact ⟨(t.block p hpl hp).trans H.pb, row_keep H.r2 (fun q hq => t.block q (row_lt H.r2 q hq) (hr q (.inl hq))), row_keep H.r3 (fun q hq => t.block q (row_lt H.r3 q hq) (hr q (.inr hq))), H.len,
    fun k hk => ⟨cl (hw _ (mem_wft.2 ⟨k, hk, .inl rfl⟩)) (H.ca k hk).1, (H.ca k hk).2⟩, fun k hk => ⟨cl (hw _ (mem_wft.2 ⟨k, hk, .inr rfl⟩)) (H.cs k hk).1, (H.cs k hk).2⟩⟩

theorem Bx.touch {G : List Nat} (H : Bx W p a h r g c x sw ws) (t : Touch G W W') (hn : ∀ q, q ∈ p :: a :: h :: rft r g → q ∉ G) (h0 : 1 ∉ G) (h1 : 0 ∉ G) : Bx W' p a h r g c x sw ws :=
  ⟨⟨H.bo.own.of_block (t.block _ H.bo.own.lt (hn p (by simp))), H.bo.ar.touch t (hn a (by simp)) (hn h (by simp)), H.bo.ra.touch t (fun q hq => hn q (by simp [hq])), H.bo.la.touch t h0 h1⟩, H.tb, H.rd, H.pd⟩

theorem Pq.keep {G : List Nat} (H : Pq W base p a h r g c x sw ws ks v2 v3) (t : Touch G W W') (hn : ∀ q, q ∈ cft p a h r g v2 v3 ++ wft ks → q ∉ G) (hG : ∀ q, q ∈ G → base ≤ q) : Pq W' base p a h r g c x sw ws ks v2 v3 := by
  have h0 : 1 ∉ G := fun hm => by have := hG _ hm; have := H.tb.1; omega
  have h1 : 0 ∉ G := fun hm => by have := hG _ hm; have := H.tb.2; omega
  exact ⟨H.bx.touch t (fun q hq => hn q (List.mem_append.2 (.inl (mem_cft.2 (.inl hq))))) h0 h1, H.kp.touch t (hn p (List.mem_append.2 (.inl (mem_cft.2 (.inl (by simp)))))) (fun q hq => hn q (List.mem_append.2 (.inl (mem_cft.2 (.inr hq))))) (fun q hq => hn q (List.mem_append.2 (.inr hq))), H.sr, H.sw_, H.ge, H.tb⟩

theorem Pr.keep {F G : List Nat} (H : Pr W base p c F) (t : Touch G W W') (hn : ∀ q, q ∈ F → q ∉ G) (hG : ∀ q, q ∈ G → base ≤ q) : Pr W' base p c F := by
  obtain ⟨a, h, r, g, x, sw, ws, ks, v2, v3, H, rfl⟩ := H
  exact ⟨a, h, r, g, x, sw, ws, ks, v2, v3, H.keep t hn hG, rfl⟩

theorem Pr.mem {F : List Nat} (H : Pr W base p c F) : ∀ q, q ∈ F → base ≤ q ∧ q < W.heap.size := by
  obtain ⟨a, h, r, g, x, sw, ws, ks, v2, v3, H, rfl⟩ := H
  exact H.mem

/-- What a step leaves. -/
def After (W : World) (base p : Nat) (c : Cfg) (F : List Nat) : Ending → World → Prop := fun e W' => e = .returned (.bool true) ∧ ∃ F', Pr W' base p c F' ∧ Touch F W W' ∧ Newer W.heap.size F F'

theorem after_below {F : List Nat} (H : Pr W base p c F) {e : Ending} (he : e = .returned (.bool true)) (l : Below W.heap.size W W') : After W base p c F e W' :=
  ⟨he, F, H.keep (Touch.of_below l []) (by simp) (by simp), Touch.of_below l F, Newer.refl _ _⟩

theorem step_pr (o : Opg) (hs : Wd o.s) (hu : Wd o.u) (hat : -9223372036854775808 ≤ o.at_ ∧ o.at_ ≤ 9223372036854775807) (F : List Nat) (H : Pr W base p c F) (hbase : base ≤ W.heap.size) :
    Calls Tryz.prog 7 #[.pointer (some ⟨p, 0, none⟩), o.val] W (After W base p c F) := by
  have H0 := H
  obtain ⟨a, h, r, g, x, sw, ws, ks, v2, v3, Hq, rfl⟩ := H
  have hB := Hq.bx.bo
  have ask : ∀ {P : Calls Tryz.prog 7 #[.pointer (some ⟨p, 0, none⟩), o.val] W fun e w' => e = .returned (.bool true) ∧ Below W.heap.size W w'}, Calls Tryz.prog 7 #[.pointer (some ⟨p, 0, none⟩), o.val] W (After W base p c (cft p a h r g v2 v3 ++ wft ks)) := fun {P} => P.mono fun e w' ⟨h1, h2⟩ => after_below H0 h1 h2
  by_cases h1 : o.k < 1 ∨ 21 < o.k
  · exact @ask (step_none p o h1 W)
  by_cases h9 : o.k ≤ 9
  · refine (stepw_all p a h r g c x sw ws o (by omega) h9 hs hu W Hq.bx).mono ?_
    rintro e w' ⟨rfl, x', sw', ws', hb, t⟩
    have hn : ∀ q, q ∈ a :: h :: rft r g → q ∈ p :: a :: h :: rft r g := fun q hq => by simp at hq ⊢; exact .inr hq
    have hpn : p ∉ a :: h :: rft r g := fun hm => by
      rcases List.mem_cons.1 hm with e | hm
      · exact Hq.bx.pd.1 e
      rcases List.mem_cons.1 hm with e | hm
      · exact Hq.bx.pd.2 e
      · exact (Hq.bx.rd p hm).2.2 rfl
    refine ⟨rfl, _, ⟨a, h, r, g, x', sw', ws', ks, v2, v3, ⟨hb, Hq.kp.touch t hpn (fun q hq hm => Hq.sr q hq (hn q hm)) (fun q hq hm => Hq.sw_ q hq (mem_cft.2 (.inl (hn q hm)))), Hq.sr, Hq.sw_, Hq.ge, Hq.tb⟩, rfl⟩, t.mono (fun q hq => .inl (List.mem_append.2 (.inl (mem_cft.2 (.inl (hn q hq)))))), Newer.refl _ _⟩
  have hk : o.k = 10 ∨ o.k = 11 ∨ o.k = 12 ∨ o.k = 13 ∨ o.k = 14 ∨ o.k = 15 ∨ o.k = 16 ∨ o.k = 17 ∨ o.k = 18 ∨ o.k = 19 ∨ o.k = 20 ∨ o.k = 21 := by omega
  rcases hk with hk | hk | hk | hk | hk | hk | hk | hk | hk | hk | hk | hk
  · exact @ask (step10_any p a h r g c x sw ws o hk W hB)
  · exact @ask (step11_any p a h r g c x sw ws o hk W hB)
  · exact @ask (step12g_any p a h r g c x sw ws o hk W hB)
  · exact @ask (step13_any p a h r g c x sw ws o hk W hB)
  · exact @ask (step14_any p a h r g c x sw ws o hk W hB)
  · exact @ask (step15_any p a h r g c x sw ws o hk W hB)
  · exact @ask (step16_any p a h r g c x sw ws o hk W hB)
  · exact @ask (step17_any p a h r g c x sw ws o hk W hB)
  · exact @ask (step18g_any p a h r g c x sw ws o hk W hB)
  · exact @ask (step19g_any p a h r g c x sw ws o hk W hB)
  · by_cases hl : ks.length < 64
    · refine (step20_core p a h r g c x sw ws o hk base ks v2 v3 hl W hB Hq.kp hbase).mono ?_
      rintro e w' ⟨rfl, ca, v2', v3', hca, d1, d2, hpb, hr2, hr3, t, hn2, hn3, hcl⟩
      have hG : ∀ q, q ∈ p :: (v2.ownBlock.toList ++ v3.ownBlock.toList) → q = p ∨ v2.ownBlock = some q ∨ v3.ownBlock = some q := fun q hq => by
        simp only [List.mem_cons, List.mem_append, Option.mem_toList] at hq
        exact hq
      have hGm : ∀ q, q ∈ p :: (v2.ownBlock.toList ++ v3.ownBlock.toList) → q ∈ cft p a h r g v2 v3 := fun q hq => by
        rcases hG q hq with rfl | hq | hq
        · exact mem_cft.2 (.inl (by simp))
        · exact mem_cft.2 (.inr (.inl hq))
        · exact mem_cft.2 (.inr (.inr hq))
      have hGb : ∀ q, q ∈ p :: (v2.ownBlock.toList ++ v3.ownBlock.toList) → base ≤ q := fun q hq => (Hq.mem q (List.mem_append.2 (.inl (hGm q hq)))).1
      have hAr : ∀ q, q ∈ a :: h :: rft r g → q ∉ p :: (v2.ownBlock.toList ++ v3.ownBlock.toList) := fun q hq hm => by
        rcases hG q hm with rfl | hm
        · rcases List.mem_cons.1 hq with e | hq
          · exact Hq.bx.pd.1 e
          rcases List.mem_cons.1 hq with e | hq
          · exact Hq.bx.pd.2 e
          · exact (Hq.bx.rd q hq).2.2 rfl
        · exact Hq.sr q hm (by simp at hq ⊢; exact .inr hq)
      have h0 : 1 ∉ p :: (v2.ownBlock.toList ++ v3.ownBlock.toList) := fun hm => by have := hGb _ hm; have := Hq.tb.1; omega
      have h1' : 0 ∉ p :: (v2.ownBlock.toList ++ v3.ownBlock.toList) := fun hm => by have := hGb _ hm; have := Hq.tb.2; omega
      have hlt : ∀ q, q ∈ p :: a :: h :: rft r g → q < W.heap.size := fun q hq => (Hq.arena q hq).2
      have hold : ∀ q, q ∈ wft ks → q < W.heap.size ∧ base ≤ q := fun q hq => ⟨(Hq.mem q (List.mem_append.2 (.inr hq))).2, (Hq.mem q (List.mem_append.2 (.inr hq))).1⟩
      have cl : ∀ {q : Nat} {u : Value}, q ∈ wft ks → W.cell? ⟨q, 0, none⟩ = some u → w'.cell? ⟨q, 0, none⟩ = some u := fun hq hc => (World.cell?_of_block (w := W) (t.block _ (World.block_lt_of_cell? _ _ hc) (fun hm => Hq.sw_ _ hq (hGm _ hm)))).trans hc
      have hkp : Kept w' p a r base (ks ++ [⟨ca, ca + 1, o.sp⟩]) v2' v3' := by
        refine ⟨hpb, by simpa using hr2, by simpa using hr3, by simp; omega, fun k hm => ?_, fun k hm => ?_⟩
        · rcases List.mem_append.1 hm with hm | hm
          · exact ⟨cl (mem_wft.2 ⟨k, hm, .inl rfl⟩) (Hq.kp.ca k hm).1, (Hq.kp.ca k hm).2⟩
          · simp at hm; subst hm; exact ⟨d1, by show base ≤ ca; omega⟩
        · rcases List.mem_append.1 hm with hm | hm
          · exact ⟨cl (mem_wft.2 ⟨k, hm, .inr rfl⟩) (Hq.kp.cs k hm).1, (Hq.kp.cs k hm).2⟩
          · simp at hm; subst hm; exact ⟨d2, by show base ≤ ca + 1; omega⟩
      have how : Ow w' p a r := ⟨fun j => (#[Value.pointer (some ⟨a, 0, none⟩), .pointer (some ⟨r, 0, none⟩), v2', v3'] : Array Value)[j]?.getD undef, ⟨_, hpb, rfl, fun j hj => by
        match j, hj with
        | 0, _ | 1, _ | 2, _ | 3, _ => rfl
        | j + 4, h => exact absurd (show j + 4 < 4 from h) (by omega)⟩, rfl, rfl⟩
      have hbx : Bx w' p a h r g c x sw ws := ⟨⟨how, hB.ar.touch t (hAr a (by simp)) (hAr h (by simp)), hB.ra.touch t (fun q hq => hAr q (by simp [hq])), hB.la.touch t h0 h1'⟩, Hq.bx.tb, Hq.bx.rd, Hq.bx.pd⟩
      have hw4 : ∀ q, q ∈ wft (ks ++ [⟨ca, ca + 1, o.sp⟩]) → q ∈ wft ks ∨ q = ca ∨ q = ca + 1 := fun q hq => by
        obtain ⟨k, hk, hh⟩ := mem_wft.1 hq
        rcases List.mem_append.1 hk with hk | hk
        · exact .inl (mem_wft.2 ⟨k, hk, hh⟩)
        · simp at hk; subst hk; exact .inr hh
      have hsr : ∀ q, (v2'.ownBlock = some q ∨ v3'.ownBlock = some q) → (v2.ownBlock = some q ∨ v3.ownBlock = some q) ∨ ca + 1 < q := fun q hq => by
        rcases hq with hq | hq
        · rcases hn2 q hq with h | h
          · exact .inl (.inl h)
          · exact .inr h
        · rcases hn3 q hq with h | h
          · exact .inl (.inr h)
          · exact .inr h
      refine ⟨rfl, _, ⟨a, h, r, g, x, sw, ws, _, v2', v3', ⟨hbx, hkp, fun q hq hm => ?_, fun q hq hm => ?_, Hq.ge, Hq.tb⟩, rfl⟩, t.mono (fun q hq => .inl (List.mem_append.2 (.inl (hGm q hq)))), fun q hq => ?_⟩
      · rcases hsr q hq with h2 | h2
        · exact Hq.sr q h2 hm
        · have := hlt q hm; omega
      · rcases mem_cft.1 hm with hm | hm
        · rcases hw4 q hq with h2 | rfl | rfl
          · exact Hq.sw_ q h2 (mem_cft.2 (.inl hm))
          · have := hlt _ hm; omega
          · have := hlt _ hm; omega
        · rcases hsr q hm with h3 | h3
          · rcases hw4 q hq with h2 | rfl | rfl
            · exact Hq.sw_ q h2 (mem_cft.2 (.inr h3))
            · have := (Hq.mem _ (List.mem_append.2 (.inl (mem_cft.2 (.inr h3))))).2; omega
            · have := (Hq.mem _ (List.mem_append.2 (.inl (mem_cft.2 (.inr h3))))).2; omega
          · rcases hw4 q hq with h2 | rfl | rfl
            · have := (hold q h2).1; omega
            · omega
            · omega
      · rcases List.mem_append.1 hq with hq | hq
        · rcases mem_cft.1 hq with hq | hq
          · exact .inl (List.mem_append.2 (.inl (mem_cft.2 (.inl hq))))
          · rcases hsr q hq with h3 | h3
            · exact .inl (List.mem_append.2 (.inl (mem_cft.2 (.inr h3))))
            · exact .inr (by omega)
        · rcases hw4 q hq with h2 | rfl | rfl
          · exact .inl (List.mem_append.2 (.inr h2))
          · exact .inr hca
          · exact .inr (by omega)
    · exact @ask (step20_full p a r o hk base ks v2 v3 (by have := Hq.kp.len; omega) W Hq.kp)
  · exact @ask (step21_any p a h r g c x sw ws o hk hat base ks v2 v3 W hB Hq.kp)
end

end Go.Proofs.YtbdkcelggffneaaGreatDoor
