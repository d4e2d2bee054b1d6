import Derived.Test.YtblbiikfipcbcaaGreatDoorPRm
/-
  Images, lists with room behind them: a list of lists while it is made.
-/
set_option linter.unusedVariables false
set_option maxRecDepth 20000
namespace Go.Proofs.YtblbiikfipcbcaaGreatDoor
open Go.RowKit Go.Shelf

/-- It stays from one world to the next. -/
def Sta {α : Type} (P : World → (Nat → Nat) → List Nat → Value → α → Prop) : Prop :=
  ∀ w w' F F' N N' v a, P w N F v a → Stp w w' F F' N N' → P w' N' F' v a

/-- A list of things in a block of its own. -/
structure GotS {α : Type} (P : World → (Nat → Nat) → List Nat → Value → α → Prop) (w : World) (N : Nat → Nat) (F : List Nat) (lo b : Nat) (v : Value) (fs : List (Value × α)) : Prop where
  is : v = .slice (some ⟨b, 0, none⟩) fs.length (fs.length + 8)
  lo : lo ≤ b
  lt : b < w.heap.size
  f : b ∉ F
  n : N b = fs.length
  c : ∀ (i : Nat) x, fs[i]? = some x → w.cell? ⟨b, i, none⟩ = some x.1 ∧ P w N F x.1 x.2

theorem GotS.stp {α : Type} {P : World → (Nat → Nat) → List Nat → Value → α → Prop} (hP : Sta P) {w w' : World} {N N' : Nat → Nat} {F F' : List Nat} {lo b : Nat} {v : Value} {fs : List (Value × α)} (h : GotS P w N F lo b v fs) (s : Stp w w' F F' N N') : GotS P w' N' F' lo b v fs :=
  ⟨h.is, h.lo, s.lt h.lt, s.out h.lt h.f, by rw [s.n b h.lt h.f]; exact h.n, fun i x hx => ⟨by rw [s.cell h.lt h.f]; exact (h.c i x hx).1, hP _ _ _ _ _ _ _ _ (h.c i x hx).2 s⟩⟩

/-- A list of numbers; a list of such lists. -/
def PI (lo : Nat) (w : World) (N : Nat → Nat) (F : List Nat) (v : Value) (xs : List Int) : Prop := ∃ b, Got w N F lo b .i64 v xs
theorem PI.sta (lo : Nat) : Sta (PI lo) := fun _ _ _ _ _ _ _ _ ⟨b, h⟩ s => ⟨b, h.stp s⟩
def PL (lo : Nat) (w : World) (N : Nat → Nat) (F : List Nat) (v : Value) (fs : List (Value × List Int)) : Prop := ∃ b, GotS (PI lo) w N F lo b v fs
theorem PL.sta (lo : Nat) : Sta (PL lo) := fun _ _ _ _ _ _ _ _ ⟨b, h⟩ s => ⟨b, h.stp (PI.sta lo) s⟩

def Ql (w : World) (N : Nat → Nat) (F : List Nat) (v : Value) (j : Nat) : Prop := Ml w N F j v
theorem Ql.sta : Sta Ql := fun _ _ _ _ _ _ _ _ h s => h.stp s
def Qm (w : World) (N : Nat → Nat) (F : List Nat) (v : Value) (j : Nat) : Prop := Mm w N F j v
theorem Qm.sta : Sta Qm := fun _ _ _ _ _ _ _ _ h s => h.stp s

/-- A list of things while it is made: those that are there (L), then marks (ms). -/
structure Inp {α : Type} (P : World → (Nat → Nat) → List Nat → Value → α → Prop) (Q : World → (Nat → Nat) → List Nat → Value → Nat → Prop) (el : Nat) (w0 w : World) (n1 R : Nat) (N0 N : Nat → Nat) (S0 S : RS) (X : List Nat) (v : Value) (L : List (Value × α)) (ms : List Value) : Prop where
  row : w.ownsRow w0.heap.size el 1 v (L.length + ms.length) (L.map (·.1) ++ ms)
  bd : Bd w n1 R N S (v.ownBlock.toList ++ X)
  st : Stp w0 w (X ++ S0.F R) ((v.ownBlock.toList ++ X) ++ S.F R) N0 N
  tc : Kg.Touch (S0.F R) w0 w
  p : ∀ x, x ∈ L → P w N ((v.ownBlock.toList ++ X) ++ S.F R) x.1 x.2
  q : ∀ (j : Nat) u, ms[j]? = some u → Q w N ((v.ownBlock.toList ++ X) ++ S.F R) u j

section
variable {α : Type} {P : World → (Nat → Nat) → List Nat → Value → α → Prop} {Q : World → (Nat → Nat) → List Nat → Value → Nat → Prop} {el : Nat} {w0 w w' : World} {n1 R : Nat} {N0 N N' : Nat → Nat} {S0 S S' : RS} {X : List Nat} {v : Value} {L : List (Value × α)} {ms : List Value}

theorem Inp.start (h : Bd w0 n1 R N0 S0 X) : Inp P Q el w0 (w0.alloc (.cells #[] el)) n1 R N0 N0 S0 S0 X (.slice (some ⟨w0.heap.size, 0, none⟩) 0 0) ([] : List (Value × α)) [] := by
  have b : Below w0.heap.size w0 (w0.alloc (.cells #[] el)) := Below.alloc (Below.refl _ _) (Nat.le_refl _) _
  have hsz : (w0.alloc (.cells #[] el)).heap.size = w0.heap.size + 1 := by simp
  have hm := h.move (N' := N0) (X' := [w0.heap.size] ++ X) (Kg.Touch.of_below b X) (fun k hk => by
    rcases List.mem_append.1 hk with h1 | h1
    · simp at h1; exact ⟨by omega, .inr (by omega)⟩
    · exact ⟨Nat.lt_of_lt_of_le (h.x k h1).1 b.size, .inl h1⟩) (fun _ _ _ => rfl) (fun k hk => h.d k (Nat.le_trans b.size hk)) (fun k hk => by
    rcases List.mem_append.1 hk with h1 | h1
    · simp at h1; exact h.d k (by omega)
    · exact h.z k (List.mem_append_left _ h1))
  exact ⟨⟨by simp, .inr ⟨_, 0, #[], rfl, Nat.le_refl _, heap_alloc_new w0 _, by simp, by simp [maxLen], by simp, by simp⟩⟩, hm.1, hm.2, Kg.Touch.of_below b _, fun x hx => by simp at hx, fun j u hu => by simp at hu⟩

/-- A call that makes other lists. -/
theorem Inp.sub (hP : Sta P) (hQ : Sta Q) (h : Inp P Q el w0 w n1 R N0 N S0 S X v L ms) {d : Nat} {G : World → (Nat → Nat) → List Nat → Prop} (k : RPost n1 R N S (v.ownBlock.toList ++ X) w w' d G) :
    ∃ N' S', Inp P Q el w0 w' n1 R N0 N' S0 S' X v L ms ∧ G w' N' ((v.ownBlock.toList ++ X) ++ S'.F R) ∧ S'.tot = S.tot + d := by
  obtain ⟨N', S', h1, h2, h3, h4, h5⟩ := k
  refine ⟨N', S', ⟨Kg.row_keep2 h.row h4 (fun q hq => (h.bd.x q (List.mem_append_left _ (by rw [Option.mem_toList]; exact hq))).2), h2, h.st.trans h3, h.tc.then h4 (fun q hq => ?_), fun x hx => hP _ _ _ _ _ _ _ _ (h.p x hx) h3, fun j u hu => hQ _ _ _ _ _ _ _ _ (h.q j u hu) h3⟩, h1, h5⟩
  rcases h.st.f q (List.mem_append_right _ hq) with h6 | h6
  · rcases List.mem_append.1 h6 with h7 | h7
    · exact absurd hq (h.bd.x q (List.mem_append_right _ h7)).2
    · exact .inl h7
  · exact .inr h6

/-- Blocks that are laid. -/
theorem Inp.below (hP : Sta P) (hQ : Sta Q) (h : Inp P Q el w0 w n1 R N0 N S0 S X v L ms) (b : Below w.heap.size w w') : Inp P Q el w0 w' n1 R N0 N S0 S X v L ms := by
  have s := (h.bd.laid b (fun _ _ => rfl) (fun k hk => h.bd.d k (Nat.le_trans b.size hk))).2
  exact ⟨Kg.row_keep2 h.row (Kg.Touch.of_below b []) (fun _ _ => by simp), h.bd.below b, h.st.trans s, h.tc.trans (Kg.Touch.of_below b _), fun x hx => hP _ _ _ _ _ _ _ _ (h.p x hx) s, fun j u hu => hQ _ _ _ _ _ _ _ _ (h.q j u hu) s⟩

/-- Something is laid behind it. -/
theorem Inp.grow (hP : Sta P) (hQ : Sta Q) (h : Inp P Q el w0 w n1 R N0 N S0 S X v L ms) {v' : Value} {L' : List (Value × α)} {ms' : List Value} (t : Kg.Touch v.ownBlock.toList w w') (hat : v'.ownBlock = v.ownBlock ∨ v'.ownBlock = some w.heap.size) (hrow : w'.ownsRow w0.heap.size el 1 v' (L'.length + ms'.length) (L'.map (·.1) ++ ms'))
    (hL : ∀ x, x ∈ L' → x ∈ L ∨ P w N ((v.ownBlock.toList ++ X) ++ S.F R) x.1 x.2) (hms : ∀ (j : Nat) u, ms'[j]? = some u → ms[j]? = some u ∨ Q w N ((v.ownBlock.toList ++ X) ++ S.F R) u j) : Inp P Q el w0 w' n1 R N0 N S0 S X v' L' ms' := by
  have hm := h.bd.move (N' := N) (X' := v'.ownBlock.toList ++ X) (t.mono (fun k hk => .inl (List.mem_append_left _ hk))) (fun k hk => by
    rcases List.mem_append.1 hk with h1 | h1
    · rw [Option.mem_toList] at h1
      refine ⟨(hrow.lt k h1).2, ?_⟩
      rcases hat with e | e
      · exact .inl (List.mem_append_left _ (by rw [Option.mem_toList, ← e]; exact h1))
      · rw [e] at h1
        exact .inr (Nat.le_of_eq (Option.some.inj h1))
    · exact ⟨Nat.lt_of_lt_of_le (h.bd.x k (List.mem_append_right _ h1)).1 t.size, .inl (List.mem_append_right _ h1)⟩) (fun _ _ _ => rfl) (fun k hk => h.bd.d k (Nat.le_trans t.size hk)) (fun k hk => by
    rcases List.mem_append.1 hk with h1 | h1
    · rw [Option.mem_toList] at h1
      rcases hat with e | e
      · exact h.bd.z k (List.mem_append_left _ (List.mem_append_left _ (by rw [Option.mem_toList, ← e]; exact h1)))
      · rw [e] at h1
        exact h.bd.d k (Nat.le_of_eq (Option.some.inj h1))
    · exact h.bd.z k (List.mem_append_left _ (List.mem_append_right _ h1)))
  refine ⟨hrow, hm.1, h.st.trans hm.2, h.tc.then t (fun q hq => ?_), fun x hx => ?_, fun j u hu => ?_⟩
  · rw [Option.mem_toList] at hq
    exact .inr (h.row.lt q hq).1
  · rcases hL x hx with h1 | h1
    · exact hP _ _ _ _ _ _ _ _ (h.p x h1) hm.2
    · exact hP _ _ _ _ _ _ _ _ h1 hm.2
  · rcases hms j u hu with h1 | h1
    · exact hQ _ _ _ _ _ _ _ _ (h.q j u h1) hm.2
    · exact hQ _ _ _ _ _ _ _ _ h1 hm.2

/-- It is whole. -/
theorem Inp.fin (hP : Sta P) (hQ : Sta Q) {b c : Nat} (h : Inp P Q el w0 w n1 R N0 N S0 S X (.slice (some ⟨b, 0, none⟩) (L.length + 8) c) L ms) (h8 : ms.length = 8) (hX : b ∉ X) (hn1 : n1 ≤ w0.heap.size) :
    Bd w n1 R (upN N b L.length) S X ∧ Stp w0 w (X ++ S0.F R) (X ++ S.F R) N0 (upN N b L.length) ∧ b < w.heap.size ∧ b ∉ X ++ S.F R ∧ n1 ≤ b ∧ upN N b L.length b = L.length ∧
      (∀ (i : Nat) x, L[i]? = some x → w.cell? ⟨b, i, none⟩ = some x.1 ∧ P w (upN N b L.length) (X ++ S.F R) x.1 x.2) ∧ (∀ j, j < 8 → ∃ u, w.cell? ⟨b, L.length + j, none⟩ = some u ∧ Q w (upN N b L.length) (X ++ S.F R) u j) := by
  have hb : (Value.slice (some ⟨b, 0, none⟩) (L.length + 8) c).ownBlock = some b := rfl
  have hbl := h.row.lt b hb
  have hbF : b ∉ S.F R := (h.bd.x b (List.mem_append_left _ (by rw [Option.mem_toList]; exact hb))).2
  have hm := h.bd.move (N' := upN N b L.length) (X' := X) (Kg.Touch.refl _ _) (fun k hk => ⟨(h.bd.x k (List.mem_append_right _ hk)).1, .inl (List.mem_append_right _ hk)⟩) (fun k hk hx => by
    unfold upN
    rw [if_neg (fun (e : k = b) => hx (List.mem_append_left _ (by rw [e]; simp [Value.ownBlock])))]) (fun k hk => by
    unfold upN
    rw [if_neg (by omega)]
    exact h.bd.d k hk) (fun k hk => by
    unfold upN
    rw [if_neg (fun (e : k = b) => hX (e ▸ hk))]
    exact h.bd.z k (List.mem_append_left _ (List.mem_append_right _ hk)))
  have hc : ∀ (j : Nat) u, (L.map (·.1) ++ ms)[j]? = some u → w.cell? ⟨b, j, none⟩ = some u := fun j u hu => by
    have h9 := h.row.cells (g := b) rfl j u hu
    rw [Addr.add_lit, Nat.zero_add] at h9
    exact h9
  refine ⟨hm.1, h.st.trans hm.2, hbl.2, fun hmem => (List.mem_append.1 hmem).elim hX hbF, Nat.le_trans hn1 hbl.1, by unfold upN; rw [if_pos rfl], fun i x hx => ⟨hc i x.1 ?_, hP _ _ _ _ _ _ _ _ (h.p x (List.mem_of_getElem? hx)) hm.2⟩, fun j hj => ?_⟩
  · rw [List.getElem?_append_left (by rw [List.length_map]; exact (List.getElem?_eq_some_iff.1 hx).1), List.getElem?_map, hx]
    rfl
  · have hu : ms[j]? = some (ms[j]'(by omega)) := List.getElem?_eq_getElem (by omega)
    refine ⟨_, hc (L.length + j) _ ?_, hQ _ _ _ _ _ _ _ _ (h.q j _ hu) hm.2⟩
    rw [List.getElem?_append_right (by rw [List.length_map]; omega), List.length_map, Nat.add_sub_cancel_left]
    exact hu

end

end Go.Proofs.YtblbiikfipcbcaaGreatDoor

/-
  Images, lists with room behind them: lists of lists. (Printed by mkRM5.py.)
-/
set_option linter.unusedVariables false
set_option maxRecDepth 20000
namespace Go.Proofs.YtblbiikfipcbcaaGreatDoor
open Go.RowKit Go.Shelf

theorem infoE_roomIntLists : (Tryz.prog.info? 25).map (fun i => (i.zero, i.size, i.bytes)) = some (some (.slice none 0 0), 1, 24) := by kernel_rfl
theorem infoS_roomIntLists : (Tryz.prog.info? 33).map (fun i => (i.zero, i.size, i.bytes)) = some (some (.slice none 0 0), 1, 24) := by kernel_rfl

theorem marks_Ql {w : World} {F : List Nat} {N : Nat → Nat} (hF : ∀ k, k ∈ F → k < w.heap.size) (hd : ∀ k, w.heap.size ≤ k → N k = 0) (m : Nat) :
    Below w.heap.size w (((w.alloc (.cells #[.int .i64 (-7701)] 3)).alloc (.cells #[.int .i64 (-7702)] 3)).alloc (.cells #[.slice (some ⟨w.heap.size, 0, none⟩) 1 1, .slice (some ⟨w.heap.size + 1, 0, none⟩) 1 1] 25)) ∧
      Ql (((w.alloc (.cells #[.int .i64 (-7701)] 3)).alloc (.cells #[.int .i64 (-7702)] 3)).alloc (.cells #[.slice (some ⟨w.heap.size, 0, none⟩) 1 1, .slice (some ⟨w.heap.size + 1, 0, none⟩) 1 1] 25)) N F (.slice (some ⟨w.heap.size, 0, none⟩) 1 1) (2 * m) ∧
      Ql (((w.alloc (.cells #[.int .i64 (-7701)] 3)).alloc (.cells #[.int .i64 (-7702)] 3)).alloc (.cells #[.slice (some ⟨w.heap.size, 0, none⟩) 1 1, .slice (some ⟨w.heap.size + 1, 0, none⟩) 1 1] 25)) N F (.slice (some ⟨w.heap.size + 1, 0, none⟩) 1 1) (2 * m + 1) ∧
      ∀ j u, [(.slice (some ⟨w.heap.size, 0, none⟩) 1 1 : Value), .slice (some ⟨w.heap.size + 1, 0, none⟩) 1 1][j]? = some u → (((w.alloc (.cells #[.int .i64 (-7701)] 3)).alloc (.cells #[.int .i64 (-7702)] 3)).alloc (.cells #[.slice (some ⟨w.heap.size, 0, none⟩) 1 1, .slice (some ⟨w.heap.size + 1, 0, none⟩) 1 1] 25)).cell? ((⟨w.heap.size + 1 + 1, 0, none⟩ : Addr).add j) = some u := by
  have b1 : Below w.heap.size w (w.alloc (.cells #[.int .i64 (-7701)] 3)) := Below.alloc (Below.refl _ _) (Nat.le_refl _) _
  have b2 := Below.alloc b1 b1.size (.cells #[.int .i64 (-7702)] 3)
  have b3 := Below.alloc b2 b2.size (.cells #[.slice (some ⟨w.heap.size, 0, none⟩) 1 1, .slice (some ⟨w.heap.size + 1, 0, none⟩) 1 1] 25)
  have c1 := Kg.heap_cell (heap_alloc_new w (.cells #[.int .i64 (-7701)] 3 (0, 0))) 0
  have c2 := Kg.heap_cell (heap_alloc_new (w.alloc (.cells #[.int .i64 (-7701)] 3)) (.cells #[.int .i64 (-7702)] 3 (0, 0))) 0
  rw [World.size_alloc] at c2
  refine ⟨b3, ⟨w.heap.size, 1, rfl, fun hk => Nat.lt_irrefl _ (hF _ hk), by simp; omega, hd _ (Nat.le_refl _), ?_⟩, ⟨w.heap.size + 1, 1, rfl, fun hk => by have := hF _ hk; omega, by simp, hd _ (by omega), ?_⟩, ?_⟩
  · have e1 : mrk (2 * m) = -7701 := by unfold mrk; rw [if_pos (by omega)]
    rw [e1]
    refine (World.cell?_of_block ?_).trans c1
    rw [Below.heap_alloc _ _ _ (by simp; omega), Below.heap_alloc _ _ _ (by simp)]
  · have e1 : mrk (2 * m + 1) = -7702 := by unfold mrk; rw [if_neg (by omega)]
    rw [e1]
    refine (World.cell?_of_block ?_).trans c2
    rw [Below.heap_alloc _ _ _ (by simp)]
  · have h9 := cell_two_new ((w.alloc (.cells #[.int .i64 (-7701)] 3)).alloc (.cells #[.int .i64 (-7702)] 3)) (.slice (some ⟨w.heap.size, 0, none⟩) 1 1) (.slice (some ⟨w.heap.size + 1, 0, none⟩) 1 1) 25
    rw [World.size_alloc, World.size_alloc] at h9
    exact h9

/-- How many lists there are. -/
def csI (l : List (Value × List Int)) : Nat := l.length
theorem csI_snoc {l : List (Value × List Int)} {k : Nat} {x : Value × List Int} (h : l[k]? = some x) : csI (l.take (k + 1)) = csI (l.take k) + 1 := by
  unfold csI
  rw [take_snocL h, List.length_append]
  rfl
theorem csI_take (l : List (Value × List Int)) (k : Nat) : csI (l.take k) ≤ csI l := by
  unfold csI
  rw [List.length_take]
  omega

end Go.Proofs.YtblbiikfipcbcaaGreatDoor

/-
  Images, lists with room behind them: frames. (Printed by mkRM5.py.)
-/
set_option linter.unusedVariables false
set_option maxRecDepth 20000
namespace Go.Proofs.YtblbiikfipcbcaaGreatDoor
open Go.RowKit Go.Shelf

theorem infoE_roomFrames : (Tryz.prog.info? 33).map (fun i => (i.zero, i.size, i.bytes)) = some (some (.slice none 0 0), 1, 24) := by kernel_rfl
theorem infoS_roomFrames : (Tryz.prog.info? 24).map (fun i => (i.zero, i.size, i.bytes)) = some (some (.slice none 0 0), 1, 24) := by kernel_rfl

theorem marks_Qm {w : World} {F : List Nat} {N : Nat → Nat} (hF : ∀ k, k ∈ F → k < w.heap.size) (hd : ∀ k, w.heap.size ≤ k → N k = 0) (m : Nat) :
    Below w.heap.size w (((((w.alloc (.cells #[.int .i64 (-7701)] 3)).alloc (.cells #[.slice (some ⟨w.heap.size, 0, none⟩) 1 1] 25)).alloc (.cells #[.int .i64 (-7702)] 3)).alloc (.cells #[.slice (some ⟨w.heap.size + 1 + 1, 0, none⟩) 1 1] 25)).alloc (.cells #[.slice (some ⟨w.heap.size + 1, 0, none⟩) 1 1, .slice (some ⟨w.heap.size + 1 + 1 + 1, 0, none⟩) 1 1] 33)) ∧
      Qm (((((w.alloc (.cells #[.int .i64 (-7701)] 3)).alloc (.cells #[.slice (some ⟨w.heap.size, 0, none⟩) 1 1] 25)).alloc (.cells #[.int .i64 (-7702)] 3)).alloc (.cells #[.slice (some ⟨w.heap.size + 1 + 1, 0, none⟩) 1 1] 25)).alloc (.cells #[.slice (some ⟨w.heap.size + 1, 0, none⟩) 1 1, .slice (some ⟨w.heap.size + 1 + 1 + 1, 0, none⟩) 1 1] 33)) N F (.slice (some ⟨w.heap.size + 1, 0, none⟩) 1 1) (2 * m) ∧
      Qm (((((w.alloc (.cells #[.int .i64 (-7701)] 3)).alloc (.cells #[.slice (some ⟨w.heap.size, 0, none⟩) 1 1] 25)).alloc (.cells #[.int .i64 (-7702)] 3)).alloc (.cells #[.slice (some ⟨w.heap.size + 1 + 1, 0, none⟩) 1 1] 25)).alloc (.cells #[.slice (some ⟨w.heap.size + 1, 0, none⟩) 1 1, .slice (some ⟨w.heap.size + 1 + 1 + 1, 0, none⟩) 1 1] 33)) N F (.slice (some ⟨w.heap.size + 1 + 1 + 1, 0, none⟩) 1 1) (2 * m + 1) ∧
      ∀ j u, [(.slice (some ⟨w.heap.size + 1, 0, none⟩) 1 1 : Value), .slice (some ⟨w.heap.size + 1 + 1 + 1, 0, none⟩) 1 1][j]? = some u → (((((w.alloc (.cells #[.int .i64 (-7701)] 3)).alloc (.cells #[.slice (some ⟨w.heap.size, 0, none⟩) 1 1] 25)).alloc (.cells #[.int .i64 (-7702)] 3)).alloc (.cells #[.slice (some ⟨w.heap.size + 1 + 1, 0, none⟩) 1 1] 25)).alloc (.cells #[.slice (some ⟨w.heap.size + 1, 0, none⟩) 1 1, .slice (some ⟨w.heap.size + 1 + 1 + 1, 0, none⟩) 1 1] 33)).cell? ((⟨w.heap.size + 1 + 1 + 1 + 1, 0, none⟩ : Addr).add j) = some u := by
  have b1 : Below w.heap.size w (w.alloc (.cells #[.int .i64 (-7701)] 3)) := Below.alloc (Below.refl _ _) (Nat.le_refl _) _
  have b2 := Below.alloc b1 b1.size (.cells #[.slice (some ⟨w.heap.size, 0, none⟩) 1 1] 25)
  have b3 := Below.alloc b2 b2.size (.cells #[.int .i64 (-7702)] 3)
  have b4 := Below.alloc b3 b3.size (.cells #[.slice (some ⟨w.heap.size + 1 + 1, 0, none⟩) 1 1] 25)
  have b5 := Below.alloc b4 b4.size (.cells #[.slice (some ⟨w.heap.size + 1, 0, none⟩) 1 1, .slice (some ⟨w.heap.size + 1 + 1 + 1, 0, none⟩) 1 1] 33)
  have c1 := Kg.heap_cell (heap_alloc_new w (.cells #[.int .i64 (-7701)] 3 (0, 0))) 0
  have c2 := Kg.heap_cell (heap_alloc_new (w.alloc (.cells #[.int .i64 (-7701)] 3)) (.cells #[.slice (some ⟨w.heap.size, 0, none⟩) 1 1] 25 (0, 0))) 0
  rw [World.size_alloc] at c2
  have c3 := Kg.heap_cell (heap_alloc_new ((w.alloc (.cells #[.int .i64 (-7701)] 3)).alloc (.cells #[.slice (some ⟨w.heap.size, 0, none⟩) 1 1] 25)) (.cells #[.int .i64 (-7702)] 3 (0, 0))) 0
  rw [World.size_alloc, World.size_alloc] at c3
  have c4 := Kg.heap_cell (heap_alloc_new (((w.alloc (.cells #[.int .i64 (-7701)] 3)).alloc (.cells #[.slice (some ⟨w.heap.size, 0, none⟩) 1 1] 25)).alloc (.cells #[.int .i64 (-7702)] 3)) (.cells #[.slice (some ⟨w.heap.size + 1 + 1, 0, none⟩) 1 1] 25 (0, 0))) 0
  rw [World.size_alloc, World.size_alloc, World.size_alloc] at c4
  have e1 : mrk (2 * m) = -7701 := by unfold mrk; rw [if_pos (by omega)]
  have e2 : mrk (2 * m + 1) = -7702 := by unfold mrk; rw [if_neg (by omega)]
  refine ⟨b5, ⟨w.heap.size + 1, 1, rfl, fun hk => by have := hF _ hk; omega, by simp <;> omega, hd _ (by omega), _, (World.cell?_of_block ?_).trans c2, ⟨w.heap.size, 1, rfl, fun hk => Nat.lt_irrefl _ (hF _ hk), by simp <;> omega, hd _ (Nat.le_refl _), ?_⟩⟩, ⟨w.heap.size + 1 + 1 + 1, 1, rfl, fun hk => by have := hF _ hk; omega, by simp, hd _ (by omega), _, (World.cell?_of_block ?_).trans c4, ⟨w.heap.size + 1 + 1, 1, rfl, fun hk => by have := hF _ hk; omega, by simp <;> omega, hd _ (by omega), ?_⟩⟩, ?_⟩
  · rw [Below.heap_alloc _ _ _ (by simp <;> omega), Below.heap_alloc _ _ _ (by simp <;> omega), Below.heap_alloc _ _ _ (by simp)]
  · rw [e1]
    refine (World.cell?_of_block ?_).trans c1
    rw [Below.heap_alloc _ _ _ (by simp <;> omega), Below.heap_alloc _ _ _ (by simp <;> omega), Below.heap_alloc _ _ _ (by simp <;> omega), Below.heap_alloc _ _ _ (by simp)]
  · rw [Below.heap_alloc _ _ _ (by simp)]
  · rw [e2]
    refine (World.cell?_of_block ?_).trans c3
    rw [Below.heap_alloc _ _ _ (by simp <;> omega), Below.heap_alloc _ _ _ (by simp)]
  · have h9 := cell_two_new ((((w.alloc (.cells #[.int .i64 (-7701)] 3)).alloc (.cells #[.slice (some ⟨w.heap.size, 0, none⟩) 1 1] 25)).alloc (.cells #[.int .i64 (-7702)] 3)).alloc (.cells #[.slice (some ⟨w.heap.size + 1 + 1, 0, none⟩) 1 1] 25)) (.slice (some ⟨w.heap.size + 1, 0, none⟩) 1 1) (.slice (some ⟨w.heap.size + 1 + 1 + 1, 0, none⟩) 1 1) 33
    rw [World.size_alloc, World.size_alloc, World.size_alloc, World.size_alloc] at h9
    exact h9

/-- How many lists there are. -/
def csF (l : List (Value × List (Value × List Int))) : Nat := (l.map (fun t => t.2.length + 1)).sum
theorem csF_snoc {l : List (Value × List (Value × List Int))} {k : Nat} {x : Value × List (Value × List Int)} (h : l[k]? = some x) : csF (l.take (k + 1)) = csF (l.take k) + (x.2.length + 1) := by
  unfold csF
  rw [take_snocL h, List.map_append, List.sum_append]
  simp
theorem csF_take (l : List (Value × List (Value × List Int))) (k : Nat) : csF (l.take k) ≤ csF l := by
  have h : csF (l.take k ++ l.drop k) = csF (l.take k) + csF (l.drop k) := by
    unfold csF
    rw [List.map_append, List.sum_append]
  rw [List.take_append_drop] at h
  omega

def PT (lo : Nat) (w : World) (N : Nat → Nat) (F : List Nat) (v : Value) (ts : List (Value × List (Value × List Int))) : Prop := ∃ b, GotS (PL lo) w N F lo b v ts
theorem PT.sta (lo : Nat) : Sta (PT lo) := fun _ _ _ _ _ _ _ _ ⟨b, h⟩ s => ⟨b, h.stp (PL.sta lo) s⟩

end Go.Proofs.YtblbiikfipcbcaaGreatDoor

