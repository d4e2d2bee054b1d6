import Derived.Test.YtbgnagjhkfkekaaGreatDoorPHa
import Derived.Test.YtbgnagjhkfkekaaGreatDoorPHb
import Derived.BigQuiet
import Derived.Deep.RegionLaw
import Derived.StillTailTactics
/-
  What the arena holds: things with their numbers. (Of A11, HVa, HXa, HZ, HZa, HG, HI, HJ.)
-/
set_option linter.unusedVariables false
set_option maxRecDepth 20000
namespace Go.Proofs.YtbgnagjhkfkekaaGreatDoor
open Go.RowKit Go.Shelf

theorem step_append_own_at {P : Program} {ops : Array Oper} {o : Oper} {a : Act} {w : World} {K : Act → World → Prop} {Q : Exit → Act → World → Prop} {E : Prop}
    (hgd : o.guard = none) (s x : Operand) (t : TypeId) (ho : o.op = .call { callee := .builtin .append, args := #[s, x], argTypes := #[t, t] })
    (base : Nat) (e : TypeId) (i : TypeInfo) (z : Value) (size bytes : Nat) (ht : P.underlying t = some (.slice e)) (hi : P.info? e = some i) (hz : i.zero = some z)
    (hsize : i.size = size) (hby : i.bytes = bytes) (hzs : z.cells.size = size) (hsz : 0 < size)
    (v : Value) (n : Nat) (xs : List Value) (hs : a.eval s = v) (hown : w.ownsRow base e size v n xs)
    (ad : Addr) (m c : Nat) (news : List Value) (hx : a.eval x = .slice (some ad) m c) (hl : news.length = m * size) (hnews : ∀ j u, news[j]? = some u → w.cell? (ad.add j) = some u) (h1 : ∀ u ∈ news, u.oneCell' = true)
    (h63 : n + m ≤ maxLen) (hbytes : (n + m) * bytes ≤ 140737488355328) (hbase : base ≤ w.heap.size)
    (h : ∀ v' w', w'.ownsRow base e size v' (n + m) (xs ++ news) → w.grownBy w' v.ownBlock → (v'.ownBlock = v.ownBlock ∨ v'.ownBlock = some w.heap.size) → K (a.put o.dst v') w') :
    if Region.wanted o (yielded ops a.tmps) = true then Oper.wp P o a w K Q else E := by
  have hw : Region.wanted o (yielded ops a.tmps) = true := by simp [Region.wanted, hgd]
  rw [if_pos hw]
  obtain ⟨v', w', hr, h2, h3, h4, h5⟩ := run_append_own_at (P := P) w base t o.type e i z size bytes ht hi hz hsize hby hzs hsz v n xs hown ad m c news hl hnews h1 h63 hbytes hbase
  unfold Oper.wp
  simp [execOp, ho, resolve, invoke, builtin, hs, hx, hr, Result.andThen]
  exact h v' w' h2 h3 h5

theorem row_ne {w : World} {b base t n e s : Nat} {cs : Array Value} {v : Value} {xs : List Value} (hh : w.heap[b]? = some (.cells cs t (0, 0))) (hr : w.ownsRow base e s v n xs) (hte : t ≠ e) : some b ≠ v.ownBlock := by
  intro h
  rcases hr.2 with ⟨rfl, _⟩ | ⟨g, cap, cur, rfl, _, hg, _⟩
  · simp [Value.ownBlock] at h
  · simp only [Value.ownBlock, Option.some.injEq] at h
    subst h
    rw [hh] at hg
    simp only [Option.some.injEq, Obj.cells.injEq] at hg
    exact hte hg.2.1

theorem rows_ne {w : World} {base n m e1 e2 s1 s2 : Nat} {u v : Value} {xs ys : List Value} (h : w.ownsRow base e1 s1 u n xs) (k : w.ownsRow base e2 s2 v m ys) (hte : e1 ≠ e2) (q : Nat) (hq : u.ownBlock = some q) : v.ownBlock ≠ some q := by
  rcases h.2 with ⟨rfl, _⟩ | ⟨g, cap, cur, rfl, _, hg, _⟩
  · simp [Value.ownBlock] at hq
  · simp only [Value.ownBlock, Option.some.injEq] at hq
    subst hq
    exact fun e => row_ne hg k hte e.symm

theorem row_keep {w w' : World} {base n e size : Nat} {v : Value} {xs : List Value} (h : w.ownsRow base e size v n xs) (hk : ∀ k, v.ownBlock = some k → w'.heap[k]? = w.heap[k]?) : w'.ownsRow base e size v n xs := by
  refine ⟨h.1, ?_⟩
  rcases h.2 with hn | ⟨g, cap, cur, rfl, hb', hg, rest⟩
  · exact .inl hn
  · exact .inr ⟨g, cap, cur, rfl, hb', (hk g rfl).trans hg, rest⟩

theorem row_lt {w : World} {base n e size : Nat} {v : Value} {xs : List Value} (h : w.ownsRow base e size v n xs) (k : Nat) (hk : v.ownBlock = some k) : k < w.heap.size := by
  rcases h.2 with ⟨rfl, _⟩ | ⟨g, cap, cur, rfl, hb', hg, rest⟩
  · simp [Value.ownBlock] at hk
  · simp only [Value.ownBlock, Option.some.injEq] at hk
    subst hk
    exact (Array.getElem?_eq_some_iff.1 hg).1

abbrev ints (xs : List Int) : List Value := xs.map (Value.int .i64)

/-- A thing that is there: where, its header, its number, the fields. -/
structure Tng where
  at_ : Int
  sp : Int
  s : Int
  k : Int
  p : Int
  r : Int
  a : Int
  t : Int
  h : Bool
  no : Nat
  ps : List Int
  rs : List Int

theorem filter_at {α : Type} (p : α → Bool) (l : List α) (i : Nat) (y : α) (hy : l[i]? = some y) (hp : p y = true) : (l.filter p)[((l.take i).filter p).length]? = some y ∧ ((l.take (i + 1)).filter p).length = ((l.take i).filter p).length + 1 := by
  have hi : i < l.length := (List.getElem?_eq_some_iff.1 hy).1
  have h1 : l = l.take i ++ y :: l.drop (i + 1) := by
    have h2 : l.drop i = y :: l.drop (i + 1) := by rw [List.drop_eq_getElem_cons hi, (List.getElem?_eq_some_iff.1 hy).2]
    rw [← h2, List.take_append_drop]
  have h3 : l.take (i + 1) = l.take i ++ [y] := by rw [List.take_add_one, hy]; rfl
  constructor
  · conv => lhs; rw [h1]
    rw [List.filter_append, List.filter_cons_of_pos hp]
    have h4 : ((l.take i ++ y :: l.drop (i + 1)).take i) = l.take i := by rw [← h1]
    rw [h4, List.getElem?_append_right (Nat.le_refl _)]
    simp
  · rw [h3, List.filter_append, List.filter_cons_of_pos hp]
    simp

theorem filter_no {α : Type} (p : α → Bool) (l : List α) (i : Nat) (y : α) (hy : l[i]? = some y) (hp : p y = false) : ((l.take (i + 1)).filter p).length = ((l.take i).filter p).length := by
  have h3 : l.take (i + 1) = l.take i ++ [y] := by rw [List.take_add_one, hy]; rfl
  rw [h3, List.filter_append, List.filter_cons_of_neg (by simp [hp])]
  simp

abbrev inS (s : Nat) (T : Tng) : Bool := decide (T.sp = (s : Int))


theorem spc_is {c : Cfg} (ok : c.Ok) (i : Int) (s : Int) (h1 : 1 ≤ s) (h4 : s ≤ 4) (a : fst c s ≤ i) (b : i < bhd c s) : spc c i = s := by
  have := ok.e0; have := ok.s0; have := ok.t0
  obtain rfl | rfl | rfl | rfl : s = 1 ∨ s = 2 ∨ s = 3 ∨ s = 4 := by omega
  all_goals
    simp [fst] at a
    simp [bhd] at b
    unfold spc
    repeat' split
    all_goals omega

/-- The arena holds the things, and nothing else. -/
structure Hld (c : Cfg) (x : Tps) (ws : Nat → Int) (th : List Tng) : Prop where
  seg : ∀ s : Nat, 1 ≤ s → s ≤ 4 → Seg c ws (fst c s) (x.top s) ((th.filter (inS s)).map (·.at_))
  spr : ∀ T, T ∈ th → ∃ s : Nat, 1 ≤ s ∧ s ≤ 4 ∧ T.sp = s
  hds : ∀ T, T ∈ th → wat c ws (T.at_ + 1) = T.s ∧ kdOf (wat c ws T.at_) = T.k ∧ ptOf (wat c ws T.at_) = T.p ∧ rwOf (wat c ws T.at_) = T.r ∧ agOf (wat c ws T.at_) = T.a ∧ stOf (wat c ws T.at_) = T.t ∧ hdOf (wat c ws T.at_) = T.h
  psn : ∀ T, T ∈ th → (T.ps.length : Int) = T.p
  rsn : ∀ T, T ∈ th → (T.rs.length : Int) = T.r
  psv : ∀ T, T ∈ th → ∀ (f : Nat) z, T.ps[f]? = some z → wat c ws (T.at_ + 2 + f) = z ∧ z < c.words
  rsv : ∀ T, T ∈ th → ∀ (f : Nat) z, T.rs[f]? = some z → wat c ws (T.at_ + 2 + T.p + f) = z
  dis : ∀ (i j : Nat) T U, th[i]? = some T → th[j]? = some U → i ≠ j → T.at_ + 2 + T.p + T.r ≤ U.at_ ∨ U.at_ + 2 + U.p + U.r ≤ T.at_

section
variable {c : Cfg} {x : Tps} {sw : Bool} {ws : Nat → Int} {th : List Tng} {w : World} {b g : Nat}

/-- A thing stands in its space. -/
theorem Hld.stands (H : Hld c x ws th) (hA : Ar w b g c x sw ws) {T : Tng} (hT : T ∈ th) : ∃ s : Nat, 1 ≤ s ∧ s ≤ 4 ∧ T.sp = s ∧ spc c T.at_ = s ∧ T.at_ < x.top s ∧ Stands c ws (x.top s) T.at_ ∧ fst c s ≤ T.at_ ∧ T.at_ ∈ (th.filter (inS s)).map (·.at_) := by
  obtain ⟨s, s1, s4, hs⟩ := H.spr T hT
  have hm : T.at_ ∈ (th.filter (inS s)).map (·.at_) := List.mem_map.2 ⟨T, List.mem_filter.2 ⟨hT, by simpa [inS] using hs⟩, rfl⟩
  have hsg := H.seg s s1 s4
  obtain ⟨h1, h2⟩ := hsg.ge T.at_ hm
  have h3 := hsg.head T.at_ hm
  have h4 := osz_in c ws T.at_
  have h5 := hA.sub_in s
  exact ⟨s, s1, s4, hs, spc_is hA.ok _ s (by omega) (by omega) h1 (by omega), by omega, ⟨h3, by omega⟩, h1, hm⟩

end


theorem ats_eq (s : Nat) (th : List Tng) : (th.filter (inS s)).map (·.at_) = ((th.map fun T => (T.sp, T.at_)).filter fun z => decide (z.1 = (s : Int))).map (·.2) := by
  induction th with
  | nil => rfl
  | cons T th ih =>
    simp only [List.map_cons]
    by_cases h : T.sp = (s : Int)
    · rw [List.filter_cons_of_pos (by simpa [inS] using h), List.filter_cons_of_pos (by simpa using h)]
      simp [ih]
    · rw [List.filter_cons_of_neg (by simpa [inS] using h), List.filter_cons_of_neg (by simpa using h)]
      exact ih

theorem map_set_same {α β : Type} (f : α → β) (l : List α) (i : Nat) (y z : α) (hy : l[i]? = some y) (hz : f z = f y) : (l.set i z).map f = l.map f := by
  apply List.ext_getElem?
  intro k
  rw [List.getElem?_map, List.getElem?_map, List.getElem?_set]
  by_cases h : i = k
  · subst h
    have hi := (List.getElem?_eq_some_iff.1 hy).1
    rw [if_pos rfl, if_pos hi, hy]
    simp [hz]
  · rw [if_neg h]

section
variable {c : Cfg} {x : Tps} {sw : Bool} {ws ws' : Nat → Int} {th : List Tng} {w : World} {b g : Nat}

theorem set_at_of {α : Type} {l : List α} {i k : Nat} {z y : α} (h : (l.set i z)[k]? = some y) : (k = i ∧ y = z) ∨ (k ≠ i ∧ l[k]? = some y) := by
  rw [List.getElem?_set] at h
  by_cases e : i = k
  · subst e
    rw [if_pos rfl] at h
    split at h
    · exact .inl ⟨rfl, (Option.some.inj h).symm⟩
    · simp at h
  · rw [if_neg e] at h
    exact .inr ⟨fun e' => e e'.symm, h⟩

theorem Hld.osz (H : Hld c x ws th) {T : Tng} (hT : T ∈ th) : osz c ws T.at_ = 2 + T.p + T.r := by
  obtain ⟨-, -, h3, h4, -⟩ := H.hds T hT
  unfold Go.Proofs.YtbgnagjhkfkekaaGreatDoor.osz
  rw [h3, h4]

/-- One thing is written anew; its words alone change. -/
theorem Hld.write (H : Hld c x ws th) (hA : Ar w b g c x sw ws) (i : Nat) (T U : Tng) (hTi : th[i]? = some T) (hsame : ∀ k, (k < T.at_ ∨ T.at_ + 2 + T.p + T.r ≤ k) → wat c ws' k = wat c ws k)
    (ea : U.at_ = T.at_) (es : U.sp = T.sp) (ep : U.p = T.p) (er : U.r = T.r) (hh : IsHead (wat c ws' T.at_))
    (hd : wat c ws' (U.at_ + 1) = U.s ∧ kdOf (wat c ws' U.at_) = U.k ∧ ptOf (wat c ws' U.at_) = U.p ∧ rwOf (wat c ws' U.at_) = U.r ∧ agOf (wat c ws' U.at_) = U.a ∧ stOf (wat c ws' U.at_) = U.t ∧ hdOf (wat c ws' U.at_) = U.h)
    (hpn : U.ps.length = T.ps.length) (hrn : U.rs.length = T.rs.length)
    (hpv : ∀ (f : Nat) z, U.ps[f]? = some z → wat c ws' (U.at_ + 2 + f) = z ∧ z < c.words) (hrv : ∀ (f : Nat) z, U.rs[f]? = some z → wat c ws' (U.at_ + 2 + U.p + f) = z) :
    Hld c x ws' (th.set i U) := by
  have hm := List.mem_of_getElem? hTi
  have hoz := H.osz hm
  obtain ⟨s, s1, s4, hs, hsp, hlt, hst, hge, hin⟩ := H.stands hA hm
  have hpp := H.psn T hm
  have hrr := H.rsn T hm
  -- another thing's words stay
  have oth : ∀ (k : Nat) V, k ≠ i → th[k]? = some V → ∀ y, V.at_ ≤ y → y < V.at_ + 2 + V.p + V.r → wat c ws' y = wat c ws y := fun k V hk hV y h1 h2 => by
    apply hsame
    rcases H.dis k i V T hV hTi hk with h | h
    · exact .inl (by omega)
    · exact .inr (by omega)
  have big : ∀ V, V ∈ th → 0 ≤ V.p ∧ 0 ≤ V.r := fun V hV => by
    have h1 := H.psn V hV
    have h2 := H.rsn V hV
    omega
  refine ⟨fun s' h1 h4 => ?_, fun V hV => ?_, fun V hV => ?_, fun V hV => ?_, fun V hV => ?_, fun V hV f z hz => ?_, fun V hV f z hz => ?_, fun k l V V' hk hl hkl => ?_⟩
  · have e : ((th.set i U).filter (inS s')).map (·.at_) = (th.filter (inS s')).map (·.at_) := by
      rw [ats_eq, ats_eq, map_set_same (fun T : Tng => (T.sp, T.at_)) th i T U hTi (by rw [ea, es])]
    rw [e]
    by_cases hss : s' = s
    · subst hss
      refine (H.seg s' h1 h4).inner hin (fun k hk => hsame k (by omega)) hh ?_ ?_
      · rw [(H.hds T hm).2.2.1, ← ep, ← hd.2.2.1, ea]
      · rw [(H.hds T hm).2.2.2.1, ← er, ← hd.2.2.2.1, ea]
    · refine (H.seg s' h1 h4).congr fun k hk1 hk2 => hsame k ?_
      have hb := hA.sub_in s'
      have hb2 := hA.sub_in s
      have h5 : spc c k = s' := spc_is hA.ok k s' (by omega) (by omega) hk1 (by omega)
      rcases Int.lt_or_le k T.at_ with h6 | h6
      · exact .inl h6
      · rcases Int.lt_or_le k (T.at_ + 2 + T.p + T.r) with h7 | h7
        · have h8 := hst.2
          have h9 : spc c k = s := spc_is hA.ok k s (by omega) (by omega) (by omega) (by omega)
          exact absurd (by omega : s' = s) hss
        · exact .inr h7
  · obtain ⟨k, hk⟩ := List.getElem?_of_mem hV
    rcases set_at_of hk with ⟨rfl, rfl⟩ | ⟨hn, hk⟩
    · rw [es]; exact ⟨s, s1, s4, hs⟩
    · exact H.spr V (List.mem_of_getElem? hk)
  · obtain ⟨k, hk⟩ := List.getElem?_of_mem hV
    rcases set_at_of hk with ⟨rfl, rfl⟩ | ⟨hn, hk⟩
    · exact hd
    · have hb := big V (List.mem_of_getElem? hk)
      have h1 := oth k V hn hk V.at_ (by omega) (by omega)
      have h2 := oth k V hn hk (V.at_ + 1) (by omega) (by omega)
      rw [h1, h2]
      exact H.hds V (List.mem_of_getElem? hk)
  · obtain ⟨k, hk⟩ := List.getElem?_of_mem hV
    rcases set_at_of hk with ⟨rfl, rfl⟩ | ⟨hn, hk⟩
    · omega
    · exact H.psn V (List.mem_of_getElem? hk)
  · obtain ⟨k, hk⟩ := List.getElem?_of_mem hV
    rcases set_at_of hk with ⟨rfl, rfl⟩ | ⟨hn, hk⟩
    · omega
    · exact H.rsn V (List.mem_of_getElem? hk)
  · obtain ⟨k, hk⟩ := List.getElem?_of_mem hV
    rcases set_at_of hk with ⟨rfl, rfl⟩ | ⟨hn, hk⟩
    · exact hpv f z hz
    · have hmV := List.mem_of_getElem? hk
      have hb := big V hmV
      have hf := (List.getElem?_eq_some_iff.1 hz).1
      have hp := H.psn V hmV
      rw [oth k V hn hk (V.at_ + 2 + f) (by omega) (by omega)]
      exact H.psv V hmV f z hz
  · obtain ⟨k, hk⟩ := List.getElem?_of_mem hV
    rcases set_at_of hk with ⟨rfl, rfl⟩ | ⟨hn, hk⟩
    · exact hrv f z hz
    · have hmV := List.mem_of_getElem? hk
      have hb := big V hmV
      have hf := (List.getElem?_eq_some_iff.1 hz).1
      have hp := H.psn V hmV
      have hr := H.rsn V hmV
      rw [oth k V hn hk (V.at_ + 2 + V.p + f) (by omega) (by omega)]
      exact H.rsv V hmV f z hz
  · rcases set_at_of hk with ⟨rfl, rfl⟩ | ⟨hn, hk2⟩
    · rcases set_at_of hl with ⟨rfl, rfl⟩ | ⟨hn2, hl⟩
      · exact absurd rfl hkl
      · rw [ea, ep, er]; exact H.dis _ _ T V' hTi hl hkl
    · rcases set_at_of hl with ⟨rfl, rfl⟩ | ⟨hn2, hl⟩
      · rw [ea, ep, er]; exact H.dis _ _ V T hk2 hTi hkl
      · exact H.dis _ _ V V' hk2 hl hkl
end


section
variable {c : Cfg} {x : Tps} {sw : Bool} {ws ws' : Nat → Int} {th : List Tng} {w : World} {b g : Nat}

theorem Hld.nil (hx : ∀ s : Nat, x.top s = fst c s) : Hld c x ws [] :=
  ⟨fun s _ _ => by rw [hx s]; exact .nil, fun T h => by simp at h, fun T h => by simp at h, fun T h => by simp at h, fun T h => by simp at h, fun T h => by simp at h, fun T h => by simp at h, fun i j T U h => by simp at h⟩

/-- Behind the top of one space words change: all that was held stays, in every space up to its old top. -/
theorem Hld.old (H : Hld c x ws th) (hA : Ar w b g c x sw ws) (s : Nat) (s1 : 1 ≤ s) (s4 : s ≤ 4) (n : Int) (hn : x.top s + n ≤ bhd c s) (hsame : ∀ k, (k < x.top s ∨ x.top s + n ≤ k) → wat c ws' k = wat c ws k) :
    (∀ s' : Nat, 1 ≤ s' → s' ≤ 4 → Seg c ws' (fst c s') (x.top s') ((th.filter (inS s')).map (·.at_))) ∧ (∀ T, T ∈ th → ∀ y, T.at_ ≤ y → y < T.at_ + 2 + T.p + T.r → wat c ws' y = wat c ws y) := by
  have hsub := hA.sub_in s
  have out : ∀ s' : Nat, 1 ≤ s' → s' ≤ 4 → ∀ y, fst c s' ≤ y → y < x.top s' → wat c ws' y = wat c ws y := fun s' h1 h4 y y1 y2 => by
    apply hsame
    by_cases e : s' = s
    · subst e; exact .inl y2
    · have hb := hA.sub_in s'
      have h5 : spc c y = s' := spc_is hA.ok y s' (by omega) (by omega) y1 (by omega)
      rcases Int.lt_or_le y (x.top s) with h6 | h6
      · exact .inl h6
      · rcases Int.lt_or_le y (x.top s + n) with h7 | h7
        · have h9 : spc c y = s := spc_is hA.ok y s (by omega) (by omega) (by omega) (by omega)
          exact absurd (by omega : s' = s) e
        · exact .inr h7
  refine ⟨fun s' h1 h4 => (H.seg s' h1 h4).congr fun y y1 y2 => out s' h1 h4 y y1 y2, fun T hT y y1 y2 => ?_⟩
  obtain ⟨s', h1, h4, -, -, -, hst, hge, -⟩ := H.stands hA hT
  have hoz := H.osz hT
  have := hst.2
  exact out s' h1 h4 y (by omega) (by omega)

theorem Hld.fill (H : Hld c x ws th) (hA : Ar w b g c x sw ws) (s : Nat) (s1 : 1 ≤ s) (s4 : s ≤ 4) (n : Int) (hn0 : 0 < n) (hn : x.top s + n ≤ bhd c s) (hsame : ∀ k, (k < x.top s ∨ x.top s + n ≤ k) → wat c ws' k = wat c ws k) (ht : IsTag 3 (wat c ws' (x.top s))) (hw : wat c ws' (x.top s) / 4 = n) :
    Hld c (x.put s (x.top s + n)) ws' th := by
  obtain ⟨h1, h2⟩ := H.old hA s s1 s4 n hn hsame
  have big : ∀ V, V ∈ th → 0 ≤ V.p ∧ 0 ≤ V.r := fun V hV => by
    have h1 := H.psn V hV
    have h2 := H.rsn V hV
    omega
  refine ⟨fun s' k1 k4 => ?_, H.spr, fun T hT => ?_, H.psn, H.rsn, fun T hT f z hz => ?_, fun T hT f z hz => ?_, H.dis⟩
  · by_cases e : s' = s
    · subst e
      rw [Tps.top_put _ _ _ (by omega)]
      have := (h1 s' k1 k4).snocF ht
      rw [hw] at this
      exact this
    · rw [Tps.top_put_ne _ _ _ _ (by omega)]
      exact h1 s' k1 k4
  · have hb := big T hT
    rw [h2 T hT T.at_ (by omega) (by omega), h2 T hT (T.at_ + 1) (by omega) (by omega)]
    exact H.hds T hT
  · have hb := big T hT
    have hf := (List.getElem?_eq_some_iff.1 hz).1
    have hp := H.psn T hT
    rw [h2 T hT (T.at_ + 2 + f) (by omega) (by omega)]
    exact H.psv T hT f z hz
  · have hb := big T hT
    have hf := (List.getElem?_eq_some_iff.1 hz).1
    have hp := H.psn T hT
    have hr := H.rsn T hT
    rw [h2 T hT (T.at_ + 2 + T.p + f) (by omega) (by omega)]
    exact H.rsv T hT f z hz

theorem Hld.put (H : Hld c x ws th) (hA : Ar w b g c x sw ws) (s : Nat) (s1 : 1 ≤ s) (s4 : s ≤ 4) (U : Tng) (ea : U.at_ = x.top s) (es : U.sp = s) (hp0 : 0 ≤ U.p) (hr0 : 0 ≤ U.r) (hn : x.top s + (2 + U.p + U.r) ≤ bhd c s) (hsame : ∀ k, (k < x.top s ∨ x.top s + (2 + U.p + U.r) ≤ k) → wat c ws' k = wat c ws k) (hh : IsHead (wat c ws' (x.top s)))
    (hd : wat c ws' (U.at_ + 1) = U.s ∧ kdOf (wat c ws' U.at_) = U.k ∧ ptOf (wat c ws' U.at_) = U.p ∧ rwOf (wat c ws' U.at_) = U.r ∧ agOf (wat c ws' U.at_) = U.a ∧ stOf (wat c ws' U.at_) = U.t ∧ hdOf (wat c ws' U.at_) = U.h)
    (hpn : (U.ps.length : Int) = U.p) (hrn : (U.rs.length : Int) = U.r)
    (hpv : ∀ (f : Nat) z, U.ps[f]? = some z → wat c ws' (U.at_ + 2 + f) = z ∧ z < c.words) (hrv : ∀ (f : Nat) z, U.rs[f]? = some z → wat c ws' (U.at_ + 2 + U.p + f) = z) :
    Hld c (x.put s (x.top s + (2 + U.p + U.r))) ws' (th ++ [U]) := by
  obtain ⟨h1, h2⟩ := H.old hA s s1 s4 _ hn hsame
  have big : ∀ V, V ∈ th → 0 ≤ V.p ∧ 0 ≤ V.r := fun V hV => by
    have h1 := H.psn V hV
    have h2 := H.rsn V hV
    omega
  have hoz : Go.Proofs.YtbgnagjhkfkekaaGreatDoor.osz c ws' (x.top s) = 2 + U.p + U.r := by
    unfold Go.Proofs.YtbgnagjhkfkekaaGreatDoor.osz
    rw [← ea, hd.2.2.1, hd.2.2.2.1]
  have mem : ∀ {V}, V ∈ th ++ [U] → V ∈ th ∨ V = U := fun hV => by simpa using hV
  have aft : ∀ V, V ∈ th → V.at_ + 2 + V.p + V.r ≤ U.at_ ∨ U.at_ + 2 + U.p + U.r ≤ V.at_ := fun V hV => by
    obtain ⟨s', k1, k4, hs, -, hlt, hst, hge, -⟩ := H.stands hA hV
    have hz := H.osz hV
    have h3 := hst.2
    have hb := big V hV
    have hb1 := hA.sub_in s'
    have hb2 := hA.sub_in s
    by_cases e : s' = s
    · subst e; exact .inl (by omega)
    · rcases Int.lt_or_le V.at_ U.at_ with h5 | h5
      · left
        rcases Int.lt_or_le U.at_ (V.at_ + 2 + V.p + V.r) with h6 | h6
        · have h7 : spc c U.at_ = s' := spc_is hA.ok _ s' (by omega) (by omega) (by omega) (by omega)
          have h8 : spc c U.at_ = s := spc_is hA.ok _ s (by omega) (by omega) (by omega) (by omega)
          exact absurd (by omega : s' = s) e
        · exact h6
      · right
        rcases Int.lt_or_le V.at_ (U.at_ + 2 + U.p + U.r) with h6 | h6
        · have h7 : spc c V.at_ = s' := spc_is hA.ok _ s' (by omega) (by omega) (by omega) (by omega)
          have h8 : spc c V.at_ = s := spc_is hA.ok _ s (by omega) (by omega) (by omega) (by omega)
          exact absurd (by omega : s' = s) e
        · exact h6
  refine ⟨fun s' k1 k4 => ?_, fun T hT => ?_, fun T hT => ?_, fun T hT => ?_, fun T hT => ?_, fun T hT f z hz => ?_, fun T hT f z hz => ?_, fun i j T V hi hj hij => ?_⟩
  · by_cases e : s' = s
    · subst e
      rw [Tps.top_put _ _ _ (by omega), List.filter_append, List.filter_cons_of_pos (by simpa [inS] using es), List.map_append]
      have := (h1 s' k1 k4).snoc hh
      rw [hoz] at this
      simpa [ea] using this
    · rw [Tps.top_put_ne _ _ _ _ (by omega), List.filter_append, List.filter_cons_of_neg (by simp [inS, es]; omega), List.map_append]
      simpa using h1 s' k1 k4
  · rcases mem hT with h | rfl
    · exact H.spr T h
    · exact ⟨s, s1, s4, es⟩
  · rcases mem hT with h | rfl
    · have hb := big T h
      rw [h2 T h T.at_ (by omega) (by omega), h2 T h (T.at_ + 1) (by omega) (by omega)]
      exact H.hds T h
    · exact hd
  · rcases mem hT with h | rfl
    · exact H.psn T h
    · exact hpn
  · rcases mem hT with h | rfl
    · exact H.rsn T h
    · exact hrn
  · rcases mem hT with h | rfl
    · have hb := big T h
      have hf := (List.getElem?_eq_some_iff.1 hz).1
      have hp := H.psn T h
      rw [h2 T h (T.at_ + 2 + f) (by omega) (by omega)]
      exact H.psv T h f z hz
    · exact hpv f z hz
  · rcases mem hT with h | rfl
    · have hb := big T h
      have hf := (List.getElem?_eq_some_iff.1 hz).1
      have hp := H.psn T h
      have hr := H.rsn T h
      rw [h2 T h (T.at_ + 2 + T.p + f) (by omega) (by omega)]
      exact H.rsv T h f z hz
    · exact hrv f z hz
  · have key : ∀ (k : Nat) V, (th ++ [U])[k]? = some V → (k < th.length ∧ th[k]? = some V) ∨ (k = th.length ∧ V = U) := fun k V hk => by
      rcases Nat.lt_or_ge k th.length with h | h
      · rw [List.getElem?_append_left h] at hk
        exact .inl ⟨h, hk⟩
      · rw [List.getElem?_append_right h] at hk
        have h3 := (List.getElem?_eq_some_iff.1 hk).1
        simp at h3
        have : k - th.length = 0 := by omega
        rw [this] at hk
        exact .inr ⟨by omega, by simpa using hk.symm⟩
    rcases key i T hi with ⟨i1, hi2⟩ | ⟨i1, e1⟩
    · rcases key j V hj with ⟨j1, hj2⟩ | ⟨j1, e2⟩
      · exact H.dis i j T V hi2 hj2 hij
      · rw [e2]
        exact aft T (List.mem_of_getElem? hi2)
    · rcases key j V hj with ⟨j1, hj2⟩ | ⟨j1, e2⟩
      · rw [e1]
        exact (aft V (List.mem_of_getElem? hj2)).symm
      · omega
end

theorem heap_ty_ne {w : World} {p q t u : Nat} {cs ds : Array Value} (h : w.heap[p]? = some (.cells cs t (0, 0))) (k : w.heap[q]? = some (.cells ds u (0, 0))) (htu : t ≠ u) : p ≠ q := by
  rintro rfl
  rw [h] at k
  simp at k
  exact htu k.2

theorem row_slice {w : World} {base n e size : Nat} {v : Value} {xs : List Value} (h : w.ownsRow base e size v n xs) : ∃ ad l m, v = .slice ad l m := by
  rcases h.2 with ⟨rfl, _⟩ | ⟨g, cap, cur, rfl, _⟩
  · exact ⟨_, _, _, rfl⟩
  · exact ⟨_, _, _, rfl⟩

section
variable {w w' : World} {b g : Nat} {c : Cfg} {x : Tps} {sw : Bool} {ws : Nat → Int}
theorem Ar.rowTy (hA : Ar w b g c x sw ws) : (∃ cs, w.heap[g]? = some (.cells cs 58 (0, 0))) ∧ ∃ cs, w.heap[b]? = some (.cells cs 111 (0, 0)) := by
  obtain ⟨cs, h1, -, -⟩ := hA.own
  obtain ⟨ds, h2, -, -⟩ := hA.row
  exact ⟨⟨ds, h2⟩, cs, h1⟩

theorem sp_out {S : Int} (hS : ¬ (1 ≤ S ∧ S ≤ 4)) (hA : Ar w b g c x sw ws) : bhd c S - x.top S ≤ 0 := by
  have h1 := hA.sub_in S
  have : x.top S = 0 := by unfold Tps.top; rw [if_neg (by omega), if_neg (by omega), if_neg (by omega), if_neg (by omega)]
  have : bhd c S ≤ 0 := by unfold bhd; rw [if_neg (by omega), if_neg (by omega), if_neg (by omega), if_neg (by omega)]; exact Int.le_refl _
  omega

end

theorem parts_wrd {k p r a t : Int} {h : Bool} (m : May k p r a t) : kdOf (wrd k p r a t h) = k ∧ ptOf (wrd k p r a t h) = p ∧ rwOf (wrd k p r a t h) = r ∧ agOf (wrd k p r a t h) = a ∧ stOf (wrd k p r a t h) = t ∧ hdOf (wrd k p r a t h) = h ∧ wrd k p r a t h % 4 = 1 ∧ wrd k p r a t h / 70368744177664 % 262144 = 0 := by
  obtain ⟨h1, h2, h3, h4, h5, h6, h7, h8, h9, h10, h11, h12⟩ := m
  unfold kdOf ptOf rwOf agOf stOf hdOf
  cases h
  · have e : wrd k p r a t false = 1 + 4 * k + 64 * a + 1024 * t + 262144 * p + 1073741824 * r := by unfold wrd; simp
    rw [e]
    refine ⟨by omega, by omega, by omega, by omega, by omega, ?_, by omega, by omega⟩
    rw [decide_eq_false]
    omega
  · have e : wrd k p r a t true = 1 + 4 * k + 32 + 64 * a + 1024 * t + 262144 * p + 1073741824 * r := by unfold wrd; simp
    rw [e]
    refine ⟨by omega, by omega, by omega, by omega, by omega, ?_, by omega, by omega⟩
    rw [decide_eq_true]
    omega

theorem head_wrd {k p r a t : Int} {h : Bool} (m : May k p r a t) : IsHead (wrd k p r a t h) := by
  obtain ⟨e1, e2, e3, e4, e5, e6, e7, e8⟩ := parts_wrd (h := h) m
  refine ⟨e7, e8, ?_⟩
  rw [e1, e2, e3, e4, e5]
  exact m.flt

theorem made_rep (z : Value) (n : Nat) : madeCells #[z] n = (List.replicate n z).toArray := by
  apply Array.ext
  · simp [size_madeCells]
  · intro i h1 h2
    simp [madeCells, Nat.mod_one]

end Go.Proofs.YtbgnagjhkfkekaaGreatDoor

/-
  Lists of numbers and things, as they are read.
-/
set_option linter.unusedVariables false
set_option maxRecDepth 20000
namespace Go.Proofs.YtbgnagjhkfkekaaGreatDoor
open Go.RowKit Go.Shelf

def InI (x : Int) : Prop := -9223372036854775808 ≤ x ∧ x ≤ 9223372036854775807

/-- v reads as the numbers xs, in a block below n0. -/
def Lrd (n0 : Nat) (w : World) (v : Value) (k : IntKind) (xs : List Int) : Prop :=
  ∃ a cap, v = .slice a xs.length cap ∧ xs.length ≤ cap ∧ ∀ (f : Nat) z, xs[f]? = some z → ∃ q off, a = some ⟨q, off, none⟩ ∧ q < n0 ∧ w.cell? ⟨q, off + f, none⟩ = some (.int k z)

theorem Lrd.below {n0 : Nat} {w w' : World} {v : Value} {k : IntKind} {xs : List Int} (h : Lrd n0 w v k xs) (l : Below n0 w w') : Lrd n0 w' v k xs := by
  obtain ⟨a, cap, h1, h2, h3⟩ := h
  refine ⟨a, cap, h1, h2, fun f z hz => ?_⟩
  obtain ⟨q, off, h4, h5, h6⟩ := h3 f z hz
  exact ⟨q, off, h4, h5, (l.cell (p := ⟨q, off + f, none⟩) h5).trans h6⟩

theorem Lrd.mono {n0 n1 : Nat} {w : World} {v : Value} {k : IntKind} {xs : List Int} (h : Lrd n0 w v k xs) (l : n0 ≤ n1) : Lrd n1 w v k xs := by
  obtain ⟨a, cap, h1, h2, h3⟩ := h
  refine ⟨a, cap, h1, h2, fun f z hz => ?_⟩
  obtain ⟨q, off, h4, h5, h6⟩ := h3 f z hz
  exact ⟨q, off, h4, Nat.lt_of_lt_of_le h5 l, h6⟩

theorem row_at {w : World} {e size n : Nat} {v : Value} {xs : List Value} (h : w.ownsRow 0 e size v n xs) (hs : 0 < size) : ∃ a cap, v = .slice a n cap ∧ n ≤ cap ∧ ∀ (f : Nat) z, xs[f]? = some z → ∃ q, a = some ⟨q, 0, none⟩ ∧ q < w.heap.size ∧ w.cell? ⟨q, f, none⟩ = some z := by
  have hl := h.1
  rcases h.2 with ⟨rfl, rfl⟩ | ⟨g, cap, cur, rfl, hb, hg, hn, hc, hsz, ht⟩
  · exact ⟨none, 0, rfl, Nat.le_refl _, fun f z hz => by
      have := (List.getElem?_eq_some_iff.1 hz).1
      omega⟩
  · refine ⟨_, _, rfl, hn, fun f z hz => ⟨g, rfl, (Array.getElem?_eq_some_iff.1 hg).1, ?_⟩⟩
    have hf := (List.getElem?_eq_some_iff.1 hz).1
    rw [cell_of_row _ _ f _ _ _ hg, ← Array.getElem?_toList]
    rw [← ht, List.getElem?_take] at hz
    split at hz
    · exact hz
    · simp at hz

theorem Lrd.of_row {w : World} {e : Nat} {v : Value} {k : IntKind} {xs : List Int} (h : w.ownsRow 0 e 1 v xs.length (xs.map (Value.int k))) : Lrd w.heap.size w v k xs := by
  obtain ⟨a, cap, h1, h2, h3⟩ := row_at h (by decide)
  refine ⟨a, cap, h1, h2, fun f z hz => ?_⟩
  obtain ⟨q, h4, h5, h6⟩ := h3 f (.int k z) (by rw [List.getElem?_map, hz]; rfl)
  exact ⟨q, 0, h4, h5, by rw [Nat.zero_add]; exact h6⟩

/-- A thing of a plan or of a lay. -/
structure LT where
  sp : Int
  s : Int
  k : Int
  p : Int
  r : Int
  a : Int
  t : Int
  h : Bool
  vp : Value
  vr : Value
  fill : Int
  ps : List Int
  rs : List Int
  at_ : Int

abbrev lcells (sp s k p r a t : Int) (h : Bool) (vp vr : Value) (fill : Int) : Array Value := #[.int .i64 sp, .int .u64 s, .int .i64 k, .int .i64 p, .int .i64 r, .int .i64 a, .int .i64 t, .bool h, vp, vr, .int .i64 fill]
abbrev LT.cells (T : LT) : Array Value := lcells T.sp T.s T.k T.p T.r T.a T.t T.h T.vp T.vr T.fill

def lflat (l : List LT) : List Value := (l.map fun T => T.cells.toList).flatten

theorem lflat_at : ∀ (l : List LT) (i : Nat) (T : LT) (j : Nat), l[i]? = some T → j < 11 → (lflat l)[i * 11 + j]? = T.cells[j]? := by
  intro l
  induction l with
  | nil => intro i T j h; simp at h
  | cons y l ih =>
    intro i T j h hj
    have e : lflat (y :: l) = y.cells.toList ++ lflat l := by simp [lflat]
    rw [e]
    cases i with
    | zero =>
      simp at h
      subst h
      rw [List.getElem?_append_left (by simpa using hj)]
      simp
    | succ i =>
      rw [List.getElem?_append_right (by simp; omega)]
      have : (i + 1) * 11 + j - y.cells.toList.length = i * 11 + j := by simp; omega
      rw [this]
      exact ih i T j (by simpa using h) hj

theorem lflat_snoc (l : List LT) (T : LT) : lflat (l ++ [T]) = lflat l ++ T.cells.toList := by simp [lflat]

theorem lcells_some (T : LT) (j : Nat) (hj : j < 11) : ∃ u, T.cells[j]? = some u := by
  match j, hj with
  | 0, _ | 1, _ | 2, _ | 3, _ | 4, _ | 5, _ | 6, _ | 7, _ | 8, _ | 9, _ | 10, _ => exact ⟨_, rfl⟩

/-- What may be in a plan. -/
structure LT.In (o : LT) : Prop where
  sp : InI o.sp
  k : InI o.k
  a : InI o.a
  t : InI o.t
  fill : InI o.fill
  s : Wd o.s
  rs : ∀ z, z ∈ o.rs → Wd z

/-- v reads as the things P. -/
def Prd (n0 : Nat) (w : World) (v : Value) (P : List LT) : Prop :=
  ∃ a cap, v = .slice a P.length cap ∧ ∀ (i : Nat) o, P[i]? = some o → o.In ∧ Lrd n0 w o.vp .i64 o.ps ∧ Lrd n0 w o.vr .u64 o.rs ∧ ∃ q off, a = some ⟨q, off, none⟩ ∧ q < n0 ∧ ∀ j, j < 11 → w.cell? ⟨q, off + i * 11 + j, none⟩ = o.cells[j]?

theorem Prd.below {n0 : Nat} {w w' : World} {v : Value} {P : List LT} (h : Prd n0 w v P) (l : Below n0 w w') : Prd n0 w' v P := by
  obtain ⟨a, cap, h1, h2⟩ := h
  refine ⟨a, cap, h1, fun i o ho => ?_⟩
  obtain ⟨h3, h4, h5, q, off, h6, h7, h8⟩ := h2 i o ho
  exact ⟨h3, h4.below l, h5.below l, q, off, h6, h7, fun j hj => (l.cell (p := ⟨q, off + i * 11 + j, none⟩) h7).trans (h8 j hj)⟩

theorem Prd.of_row {w : World} {v : Value} {P : List LT} (h : w.ownsRow 0 63 11 v P.length (lflat P)) (hP : ∀ o, o ∈ P → o.In ∧ Lrd w.heap.size w o.vp .i64 o.ps ∧ Lrd w.heap.size w o.vr .u64 o.rs) : Prd w.heap.size w v P := by
  obtain ⟨a, cap, h1, h2, h3⟩ := row_at h (by decide)
  refine ⟨a, cap, h1, fun i o ho => ?_⟩
  obtain ⟨h4, h5, h6⟩ := hP o (List.mem_of_getElem? ho)
  have key : ∀ j, j < 11 → ∃ q, a = some ⟨q, 0, none⟩ ∧ q < w.heap.size ∧ w.cell? ⟨q, i * 11 + j, none⟩ = o.cells[j]? := fun j hj => by
    obtain ⟨u, hu⟩ := lcells_some o j hj
    obtain ⟨q, e1, e2, e3⟩ := h3 (i * 11 + j) u (by rw [lflat_at P i o j ho hj]; exact hu)
    exact ⟨q, e1, e2, e3.trans hu.symm⟩
  obtain ⟨q, e1, e2, -⟩ := key 0 (by decide)
  refine ⟨h4, h5, h6, q, 0, e1, e2, fun j hj => ?_⟩
  obtain ⟨q', f1, f2, f3⟩ := key j hj
  rw [e1] at f1
  simp at f1
  subst f1
  rw [Nat.zero_add]
  exact f3

end Go.Proofs.YtbgnagjhkfkekaaGreatDoor

/-
  Where the things of a lay are.
-/
set_option linter.unusedVariables false
set_option maxRecDepth 20000
namespace Go.Proofs.YtbgnagjhkfkekaaGreatDoor
open Go.RowKit Go.Shelf

/-- How many words a thing has. -/
def LT.sz (T : LT) : Int := if 0 < T.fill then T.fill else 2 + T.ps.length + T.rs.length

def stp (x : Tps) (T : LT) : Tps := if T.at_ = 0 then x else x.put T.sp (x.top T.sp + T.sz)
/-- The tops behind the things. -/
def tps (c : Cfg) (L : List LT) : Tps := L.foldl stp (tops0 c)

theorem tps_snoc (c : Cfg) (L : List LT) (T : LT) : tps c (L ++ [T]) = stp (tps c L) T := by simp [tps]

theorem tps_take (c : Cfg) (L : List LT) (i : Nat) (T : LT) (h : L[i]? = some T) : tps c (L.take (i + 1)) = stp (tps c (L.take i)) T := by
  rw [List.take_add_one, h]
  exact tps_snoc c _ T

/-- A thing that may be laid behind the tops x. -/
structure LT.Ok (c : Cfg) (x : Tps) (T : LT) : Prop where
  s1 : 1 ≤ T.sp
  s4 : T.sp ≤ 4
  f0 : 0 ≤ T.fill
  obj : T.fill = 0 → flt T.k T.p T.r T.a T.t = 0 ∧ T.p = T.ps.length ∧ T.r = T.rs.length
  fil : 0 < T.fill → T.ps = [] ∧ T.rs = []
  at_ : T.at_ = 0 ∨ (T.at_ = x.top T.sp ∧ T.at_ + T.sz ≤ bhd c T.sp)
  few : T.ps.length ≤ 60 ∧ T.rs.length ≤ 60

/-- All things are laid one behind the other. -/
def Plc (c : Cfg) (L : List LT) : Prop := ∀ (i : Nat) T, L[i]? = some T → T.Ok c (tps c (L.take i))

theorem Plc.nil (c : Cfg) : Plc c [] := fun i T h => by simp at h

theorem Plc.snoc {c : Cfg} {L : List LT} (h : Plc c L) {T : LT} (hT : T.Ok c (tps c L)) : Plc c (L ++ [T]) := fun i U hU => by
  rcases Nat.lt_or_ge i L.length with hi | hi
  · rw [List.getElem?_append_left hi] at hU
    rw [List.take_append_of_le_length (Nat.le_of_lt hi)]
    exact h i U hU
  · rw [List.getElem?_append_right hi] at hU
    have h3 := (List.getElem?_eq_some_iff.1 hU).1
    simp at h3
    have e : i = L.length := by omega
    subst e
    simp at hU
    subst hU
    rw [List.take_left']
    · exact hT
    · rfl

/-- The tops lie within their spaces. -/
def TpOk (c : Cfg) (x : Tps) : Prop := ∀ s : Int, 1 ≤ s → s ≤ 4 → fst c s ≤ x.top s ∧ x.top s ≤ bhd c s

theorem LT.sz_pos {c : Cfg} {x : Tps} {T : LT} (h : T.Ok c x) : 1 ≤ T.sz := by
  unfold LT.sz
  split
  · omega
  · omega

theorem TpOk.tops0 (c : Cfg) (h : c.Ok) : TpOk c (tops0 c) := fun s h1 h4 => by
  have := h.e0; have := h.s0; have := h.t0
  obtain rfl | rfl | rfl | rfl : s = 1 ∨ s = 2 ∨ s = 3 ∨ s = 4 := by omega
  all_goals
    simp [fst, bhd, Go.Proofs.YtbgnagjhkfkekaaGreatDoor.tops0, Tps.top]
    try omega

theorem TpOk.stp {c : Cfg} {x : Tps} (h : TpOk c x) {T : LT} (hT : T.Ok c x) : TpOk c (stp x T) := fun s h1 h4 => by
  unfold Go.Proofs.YtbgnagjhkfkekaaGreatDoor.stp
  have := LT.sz_pos hT
  have h5 := h s h1 h4
  split
  · exact h5
  · rename_i h0
    rcases hT.at_ with e | ⟨e1, e2⟩
    · exact absurd e h0
    · by_cases e : s = T.sp
      · subst e
        rw [Tps.top_put _ _ _ ⟨h1, h4⟩]
        omega
      · rw [Tps.top_put_ne _ _ _ _ e]
        exact h5

theorem Plc.tops {c : Cfg} (hc : c.Ok) {L : List LT} (h : Plc c L) : ∀ i, i ≤ L.length → TpOk c (tps c (L.take i)) := by
  intro i
  induction i with
  | zero => intro _; simpa [tps] using TpOk.tops0 c hc
  | succ i ih =>
    intro hi
    have hT : L[i]? = some (L[i]'(by omega)) := List.getElem?_eq_getElem (by omega)
    rw [tps_take c L i _ hT]
    exact (ih (by omega)).stp (h i _ hT)

theorem Plc.all {c : Cfg} (hc : c.Ok) {L : List LT} (h : Plc c L) : TpOk c (tps c L) := by
  have := h.tops hc L.length (Nat.le_refl _)
  rwa [List.take_length] at this

/-- The object of that number. -/
def ob (L : List LT) (z : Int) : Option LT := if 1 ≤ z then (L[(z - 1).toNat]?).filter (fun T => decide (0 < T.at_ ∧ T.fill = 0)) else none
/-- Is it there? -/
def thr (L : List LT) (z : Int) : Bool := (ob L z).isSome
/-- Where it is. -/
def plc (L : List LT) (z : Int) : Int := ((ob L z).map (·.at_)).getD 0

theorem ob_some {L : List LT} {z : Int} {T : LT} : ob L z = some T ↔ 1 ≤ z ∧ L[(z - 1).toNat]? = some T ∧ 0 < T.at_ ∧ T.fill = 0 := by
  unfold ob
  split
  · rename_i h
    rw [Option.filter_eq_some_iff]
    simp [h]
  · rename_i h
    simp [h]

theorem ob_at {L : List LT} {i : Nat} {T : LT} (h : L[i]? = some T) (h1 : 0 < T.at_) (h2 : T.fill = 0) : ob L (i + 1 : Nat) = some T := by
  rw [ob_some]
  refine ⟨by omega, ?_, h1, h2⟩
  have : (((i + 1 : Nat) : Int) - 1).toNat = i := by omega
  rw [this]
  exact h

theorem thr_iff {L : List LT} {z : Int} : thr L z = true ↔ ∃ T, ob L z = some T := by
  unfold thr
  rw [Option.isSome_iff_exists]

theorem plc_some {L : List LT} {z : Int} {T : LT} (h : ob L z = some T) : plc L z = T.at_ := by unfold plc; rw [h]; rfl
theorem plc_none {L : List LT} {z : Int} (h : thr L z = false) : plc L z = 0 := by
  unfold thr at h
  unfold plc
  rw [Option.isSome_eq_false_iff, Option.isNone_iff_eq_none] at h
  rw [h]
  rfl

/-- A lay that was made. -/
structure Ly (n1 : Nat) (w : World) (lb : Nat) (c : Cfg) (L : List LT) : Prop where
  lt : lb < n1
  cfg : ∀ j, j < 14 → w.cell? ⟨lb, j, none⟩ = (ccells c)[j]?
  things : ∃ v, w.cell? ⟨lb, 14, none⟩ = some v ∧ Prd n1 w v L
  ats : ∃ v, w.cell? ⟨lb, 15, none⟩ = some v ∧ Lrd n1 w v .i64 (L.map (·.at_))

theorem Ly.below {n1 : Nat} {w w' : World} {lb : Nat} {c : Cfg} {L : List LT} (h : Ly n1 w lb c L) (l : Below n1 w w') : Ly n1 w' lb c L := by
  obtain ⟨v, h1, h2⟩ := h.things
  obtain ⟨u, h3, h4⟩ := h.ats
  exact ⟨h.lt, fun j hj => (l.cell (p := ⟨lb, j, none⟩) h.lt).trans (h.cfg j hj), ⟨v, (l.cell (p := ⟨lb, 14, none⟩) h.lt).trans h1, h2.below l⟩, ⟨u, (l.cell (p := ⟨lb, 15, none⟩) h.lt).trans h3, h4.below l⟩⟩

/-- What holds of a lay's things. -/
structure LOk (c : Cfg) (L : List LT) : Prop where
  cok : c.Ok
  len : L.length ≤ 400
  plc : Plc c L
  ptr : ∀ T, T ∈ L → ∀ z, z ∈ T.ps → z = 0 ∨ thr L z = true

end Go.Proofs.YtbgnagjhkfkekaaGreatDoor

/-
  The objects of a lay, and the things that the arena holds.
-/
set_option linter.unusedVariables false
set_option maxRecDepth 20000
namespace Go.Proofs.YtbgnagjhkfkekaaGreatDoor
open Go.RowKit Go.Shelf

/-- T is the object of o, but for what its fields hold, and Held. -/
structure Mt (T : Tng) (o : LT) : Prop where
  at_ : T.at_ = o.at_
  sp : T.sp = o.sp
  s : T.s = o.s
  k : T.k = o.k
  p : T.p = o.p
  r : T.r = o.r
  a : T.a = o.a
  t : T.t = o.t
  pl : T.ps.length = o.ps.length
  rl : T.rs.length = o.rs.length

/-- The things are the objects of the lay that are there, in their order. -/
structure Sk (L : List LT) (th : List Tng) : Prop where
  of : ∀ T, T ∈ th → ∃ (n : Nat) (o : LT), T.no = n + 1 ∧ L[n]? = some o ∧ 0 < o.at_ ∧ o.fill = 0 ∧ Mt T o
  tn : ∀ (n : Nat) (o : LT), L[n]? = some o → 0 < o.at_ → o.fill = 0 → ∃ T, T ∈ th ∧ T.no = n + 1
  ord : th.Pairwise (fun T U => T.no < U.no)

theorem Sk.nil : Sk [] [] := ⟨fun T h => by simp at h, fun n o h => by simp at h, List.Pairwise.nil⟩

theorem snoc_at {α : Type} {L : List α} {o y : α} {n : Nat} (h : (L ++ [o])[n]? = some y) : (n < L.length ∧ L[n]? = some y) ∨ (n = L.length ∧ y = o) := by
  rcases Nat.lt_or_ge n L.length with hi | hi
  · rw [List.getElem?_append_left hi] at h
    exact .inl ⟨hi, h⟩
  · rw [List.getElem?_append_right hi] at h
    have h3 := (List.getElem?_eq_some_iff.1 h).1
    simp at h3
    have e : n - L.length = 0 := by omega
    rw [e] at h
    exact .inr ⟨by omega, by simpa using h.symm⟩

theorem Sk.obj {L : List LT} {th : List Tng} (H : Sk L th) {o : LT} {U : Tng} (hU : Mt U o) (hn : U.no = L.length + 1) (h1 : 0 < o.at_) (h2 : o.fill = 0) : Sk (L ++ [o]) (th ++ [U]) := by
  refine ⟨fun T hT => ?_, fun n y hy h3 h4 => ?_, ?_⟩
  · rw [List.mem_append] at hT
    rcases hT with hT | hT
    · obtain ⟨n, y, e1, e2, e3⟩ := H.of T hT
      exact ⟨n, y, e1, by rw [List.getElem?_append_left (List.getElem?_eq_some_iff.1 e2).1]; exact e2, e3⟩
    · simp at hT
      subst hT
      exact ⟨L.length, o, hn, by simp, h1, h2, hU⟩
  · rcases snoc_at hy with ⟨-, e⟩ | ⟨rfl, rfl⟩
    · obtain ⟨T, e1, e2⟩ := H.tn n y e h3 h4
      exact ⟨T, List.mem_append_left _ e1, e2⟩
    · exact ⟨U, by simp, hn⟩
  · rw [List.pairwise_append]
    refine ⟨H.ord, by simp, fun T hT V hV => ?_⟩
    simp at hV
    subst hV
    obtain ⟨n, y, e1, e2, -⟩ := H.of T hT
    have := (List.getElem?_eq_some_iff.1 e2).1
    omega

theorem Sk.skip {L : List LT} {th : List Tng} (H : Sk L th) {o : LT} (h : ¬ (0 < o.at_ ∧ o.fill = 0)) : Sk (L ++ [o]) th := by
  refine ⟨fun T hT => ?_, fun n y hy h3 h4 => ?_, H.ord⟩
  · obtain ⟨n, y, e1, e2, e3⟩ := H.of T hT
    exact ⟨n, y, e1, by rw [List.getElem?_append_left (List.getElem?_eq_some_iff.1 e2).1]; exact e2, e3⟩
  · rcases snoc_at hy with ⟨-, e⟩ | ⟨rfl, rfl⟩
    · exact H.tn n y e h3 h4
    · exact absurd ⟨h3, h4⟩ h

theorem Sk.set {L : List LT} {th : List Tng} (H : Sk L th) (i : Nat) (T U : Tng) (hT : th[i]? = some T) (hn : U.no = T.no) (hm : ∀ o, Mt T o → Mt U o) : Sk L (th.set i U) := by
  refine ⟨fun V hV => ?_, fun n y hy h3 h4 => ?_, ?_⟩
  · obtain ⟨k, hk⟩ := List.getElem?_of_mem hV
    rcases set_at_of hk with ⟨rfl, rfl⟩ | ⟨-, hk⟩
    · obtain ⟨n, y, e1, e2, e3, e4, e5⟩ := H.of T (List.mem_of_getElem? hT)
      exact ⟨n, y, by omega, e2, e3, e4, hm y e5⟩
    · exact H.of V (List.mem_of_getElem? hk)
  · obtain ⟨V, e1, e2⟩ := H.tn n y hy h3 h4
    obtain ⟨k, hk⟩ := List.getElem?_of_mem e1
    by_cases e : k = i
    · subst e
      rw [hT] at hk
      simp at hk
      subst hk
      exact ⟨U, List.mem_of_getElem? (i := k) (by rw [List.getElem?_set, if_pos rfl, if_pos (List.getElem?_eq_some_iff.1 hT).1]), by omega⟩
    · exact ⟨V, List.mem_of_getElem? (i := k) (by rw [List.getElem?_set, if_neg (fun h => e h.symm)]; exact hk), e2⟩
  · have h1 : (th.set i U).map (·.no) = th.map (·.no) := map_set_same (fun T : Tng => T.no) th i T U hT hn
    have h2 : ((th.set i U).map (·.no)).Pairwise (· < ·) := by
      rw [h1, List.pairwise_map]
      exact H.ord
    rw [List.pairwise_map] at h2
    exact h2

theorem Sk.uniq {L : List LT} {th : List Tng} (H : Sk L th) {T U : Tng} (hT : T ∈ th) (hU : U ∈ th) (h : T.no = U.no) : T = U := by
  obtain ⟨i, hi⟩ := List.getElem?_of_mem hT
  obtain ⟨j, hj⟩ := List.getElem?_of_mem hU
  have hp := List.pairwise_iff_getElem.1 H.ord
  obtain ⟨i1, i2⟩ := List.getElem?_eq_some_iff.1 hi
  obtain ⟨j1, j2⟩ := List.getElem?_eq_some_iff.1 hj
  rcases Nat.lt_trichotomy i j with h1 | h1 | h1
  · have := hp i j i1 j1 h1
    rw [i2, j2] at this
    omega
  · subst h1
    rw [← i2, j2]
  · have := hp j i j1 i1 h1
    rw [i2, j2] at this
    omega

theorem Sk.find {L : List LT} {th : List Tng} (H : Sk L th) {z : Int} {o : LT} (h : ob L z = some o) : ∃ (i : Nat) (T : Tng), th[i]? = some T ∧ (T.no : Int) = z ∧ Mt T o := by
  obtain ⟨h1, h2, h3, h4⟩ := ob_some.1 h
  obtain ⟨T, e1, e2⟩ := H.tn _ o h2 h3 h4
  obtain ⟨i, hi⟩ := List.getElem?_of_mem e1
  obtain ⟨n, y, f1, f2, -, -, f5⟩ := H.of T e1
  have e : n = (z - 1).toNat := by omega
  subst e
  rw [h2] at f2
  simp at f2
  subst f2
  exact ⟨i, T, hi, by omega, f5⟩

theorem Sk.ob {L : List LT} {th : List Tng} (H : Sk L th) {T : Tng} (h : T ∈ th) : ∃ o, Go.Proofs.YtbgnagjhkfkekaaGreatDoor.ob L T.no = some o ∧ Mt T o := by
  obtain ⟨n, y, f1, f2, f3, f4, f5⟩ := H.of T h
  refine ⟨y, ?_, f5⟩
  rw [f1]
  exact ob_at f2 f3 f4

theorem Sk.plc {L : List LT} {th : List Tng} (H : Sk L th) {T : Tng} (h : T ∈ th) : Go.Proofs.YtbgnagjhkfkekaaGreatDoor.plc L T.no = T.at_ := by
  obtain ⟨o, h1, h2⟩ := H.ob h
  rw [plc_some h1, h2.at_]

theorem filter_step {th : List Tng} (h : th.Pairwise (fun T U => T.no < U.no)) (q : Tng → Bool) (n : Nat) :
    th.filter (fun T => q T && decide (T.no < n + 1)) = th.filter (fun T => q T && decide (T.no < n)) ++ th.filter (fun T => q T && decide (T.no = n)) := by
  induction th with
  | nil => rfl
  | cons T th ih =>
    rw [List.pairwise_cons] at h
    have ih' := ih h.2
    rcases Nat.lt_trichotomy T.no n with h1 | h1 | h1
    · have a1 : decide (T.no < n + 1) = true := by simp; omega
      have a2 : decide (T.no < n) = true := by simp; omega
      have a3 : decide (T.no = n) = false := by simp; omega
      cases hq : q T
      · rw [List.filter_cons_of_neg (by simp [hq]), List.filter_cons_of_neg (by simp [hq]), List.filter_cons_of_neg (by simp [hq])]
        exact ih'
      · rw [List.filter_cons_of_pos (by simp [hq, a1]), List.filter_cons_of_pos (by simp [hq, a2]), List.filter_cons_of_neg (by simp [a3]), List.cons_append, ih']
    · have n1 : th.filter (fun T => q T && decide (T.no < n + 1)) = [] := by
        rw [List.filter_eq_nil_iff]
        intro U hU
        have := h.1 U hU
        simp
        omega
      have n2 : th.filter (fun T => q T && decide (T.no < n)) = [] := by
        rw [List.filter_eq_nil_iff]
        intro U hU
        have := h.1 U hU
        simp
        omega
      have n3 : th.filter (fun T => q T && decide (T.no = n)) = [] := by
        rw [List.filter_eq_nil_iff]
        intro U hU
        have := h.1 U hU
        simp
        omega
      have a1 : decide (T.no < n + 1) = true := by simp; omega
      have a2 : decide (T.no < n) = false := by simp; omega
      have a3 : decide (T.no = n) = true := by simp; omega
      cases hq : q T
      · rw [List.filter_cons_of_neg (by simp [hq]), List.filter_cons_of_neg (by simp [hq]), List.filter_cons_of_neg (by simp [hq]), n1, n2, n3]
        rfl
      · rw [List.filter_cons_of_pos (by simp [hq, a1]), List.filter_cons_of_neg (by simp [a2]), List.filter_cons_of_pos (by simp [hq, a3]), n1, n2, n3]
        rfl
    · have n1 : (T :: th).filter (fun T => q T && decide (T.no < n + 1)) = [] := by
        rw [List.filter_eq_nil_iff]
        intro U hU
        rcases List.mem_cons.1 hU with rfl | hU
        · simp; omega
        · have := h.1 U hU
          simp
          omega
      have n2 : (T :: th).filter (fun T => q T && decide (T.no < n)) = [] := by
        rw [List.filter_eq_nil_iff]
        intro U hU
        rcases List.mem_cons.1 hU with rfl | hU
        · simp; omega
        · have := h.1 U hU
          simp
          omega
      have n3 : (T :: th).filter (fun T => q T && decide (T.no = n)) = [] := by
        rw [List.filter_eq_nil_iff]
        intro U hU
        rcases List.mem_cons.1 hU with rfl | hU
        · simp; omega
        · have := h.1 U hU
          simp
          omega
      rw [n1, n2, n3]
      rfl

/-- The numbers below n of the things of a kind. -/
def nos (th : List Tng) (q : Tng → Bool) (n : Nat) : List Int := (th.filter (fun T => q T && decide (T.no < n))).map (fun T => (T.no : Int))

theorem nos_yes {L : List LT} {th : List Tng} (H : Sk L th) {q : Tng → Bool} {n : Nat} {T : Tng} (hT : T ∈ th) (hn : T.no = n) (hq : q T = true) : nos th q (n + 1) = nos th q n ++ [(n : Int)] := by
  unfold nos
  rw [filter_step H.ord, List.map_append]
  congr 1
  have key : ∀ (l : List Tng), l.Pairwise (fun T U => T.no < U.no) → T ∈ l → l.filter (fun T => q T && decide (T.no = n)) = [T] := by
    intro l
    induction l with
    | nil => intro _ h; simp at h
    | cons U l ih =>
      intro hp hm
      rw [List.pairwise_cons] at hp
      rcases List.mem_cons.1 hm with rfl | hm
      · rw [List.filter_cons_of_pos (by simp [hq, hn])]
        congr 1
        rw [List.filter_eq_nil_iff]
        intro V hV
        have := hp.1 V hV
        simp
        omega
      · have := hp.1 T hm
        rw [List.filter_cons_of_neg (by simp; omega)]
        exact ih hp.2 hm
  rw [key th H.ord hT]
  simp [hn]

theorem nos_no {L : List LT} {th : List Tng} (H : Sk L th) {q : Tng → Bool} {n : Nat} (h : ∀ T, T ∈ th → T.no = n → q T = false) : nos th q (n + 1) = nos th q n := by
  unfold nos
  rw [filter_step H.ord, List.map_append]
  have : th.filter (fun T => q T && decide (T.no = n)) = [] := by
    rw [List.filter_eq_nil_iff]
    intro T hT
    simp
    intro h1 h2
    rw [h T hT h2] at h1
    simp at h1
  rw [this]
  simp

end Go.Proofs.YtbgnagjhkfkekaaGreatDoor

