import PyProof.Rows.All
import HandS.ForMost
import HandS.ForExc
import HandS.More
import HandS.TryMany
import HandS.Lambda
import HandS.Flow
import HandS.Zip
import HandS.NoneIn
import HandS.SortKw
import KE.DataMinMax
import KE.SortData
import HandS.EndTab
import HandS.HeadWalk
import PySem.Challenge.RW_voicewright_k02_how_lines_move
set_option Elab.async false
set_option linter.all false
set_option maxRecDepth 100000
set_option maxHeartbeats 2000000
/-! FL1: data by value (D), what stands for it in a heap (Rep), the state of a def by values (S), effects (M), judgements. -/
namespace FL
open PySem PySem.Spec PyProof.Rows L2

inductive D where
  | non | bl (b : Bool) | int (i : Int) | str (s : PySem.Str) | lst (xs : List D) | tup (xs : List D) | ins (C : Addr) (fs : List (PySem.Str × D))

mutual
inductive Rep (K : PySem.W.Frag) (G : Hp) : V → D → Prop
  | non : Rep K G .non .non
  | bl (b : Bool) : Rep K G (.bl b) (.bl b)
  | int (i : Int) : Rep K G (.int i) (.int i)
  | str (x : PySem.Str) : Rep K G (.str x) (.str x)
  | lst {a : Addr} {xs : List V} {ds : List D} : G a = some (.lst xs) → RepL K G xs ds → Rep K G (.ref a) (.lst ds)
  | tup {a : Addr} {xs : List V} {ds : List D} : SqT K G a xs → RepL K G xs ds → Rep K G (.ref a) (.tup ds)
  | ins {a C dx : Addr} {vs : List (PySem.Str × V)} {fs : List (PySem.Str × D)} : G a = some (.ins C dx vs) → RepF K G vs fs → Rep K G (.ref a) (.ins C fs)
inductive RepL (K : PySem.W.Frag) (G : Hp) : List V → List D → Prop
  | nil : RepL K G [] []
  | cons {v : V} {vs : List V} {d : D} {ds : List D} : Rep K G v d → RepL K G vs ds → RepL K G (v :: vs) (d :: ds)
inductive RepF (K : PySem.W.Frag) (G : Hp) : List (PySem.Str × V) → List (PySem.Str × D) → Prop
  | nil : RepF K G [] []
  | cons {n : PySem.Str} {v : V} {vs : List (PySem.Str × V)} {d : D} {ds : List (PySem.Str × D)} : Rep K G v d → RepF K G vs ds → RepF K G ((n, v) :: vs) ((n, d) :: ds)
end

theorem seqT {K : PySem.W.Frag} {H H' : Hp} {a : Addr} {xs : List V} (e : Same H H') (h : SqT K H a xs) : SqT K H' a xs := by
  rcases h with (h | ⟨o, h⟩) | h
  · exact .inl (.inl (e _ _ h))
  · exact .inl (.inr ⟨o, e _ _ h⟩)
  · exact .inr h
mutual
theorem Rep.mono {K : PySem.W.Frag} {G G' : Hp} (e : Same G G') : ∀ {v : V} {d : D}, Rep K G v d → Rep K G' v d
  | _, _, .non => .non
  | _, _, .bl b => .bl b
  | _, _, .int i => .int i
  | _, _, .str x => .str x
  | _, _, .lst h r => .lst (e _ _ h) (RepL.mono e r)
  | _, _, .tup h r => .tup (seqT e h) (RepL.mono e r)
  | _, _, .ins h r => .ins (e _ _ h) (RepF.mono e r)
theorem RepL.mono {K : PySem.W.Frag} {G G' : Hp} (e : Same G G') : ∀ {v : List V} {d : List D}, RepL K G v d → RepL K G' v d
  | _, _, .nil => .nil
  | _, _, .cons h r => .cons (Rep.mono e h) (RepL.mono e r)
theorem RepF.mono {K : PySem.W.Frag} {G G' : Hp} (e : Same G G') : ∀ {v : List (PySem.Str × V)} {d : List (PySem.Str × D)}, RepF K G v d → RepF K G' v d
  | _, _, .nil => .nil
  | _, _, .cons h r => .cons (Rep.mono e h) (RepF.mono e r)
end
theorem RepL.length {K : PySem.W.Frag} {G : Hp} : ∀ {v : List V} {d : List D}, RepL K G v d → v.length = d.length
  | _, _, .nil => rfl
  | _, _, .cons _ r => by simp [RepL.length r]
theorem RepL.get {K : PySem.W.Frag} {G : Hp} : ∀ {vs : List V} {ds : List D} {i : Nat} {d : D}, RepL K G vs ds → ds[i]? = some d → ∃ v, vs[i]? = some v ∧ Rep K G v d
  | _, _, _, _, .nil, e => by simp at e
  | _, _, 0, _, .cons r _, e => by simp at e; subst e; exact ⟨_, rfl, r⟩
  | _, _, i + 1, d, .cons _ t, e => by
    obtain ⟨v, h1, h2⟩ := RepL.get (i := i) (d := d) t (by simpa using e)
    exact ⟨v, by simpa using h1, h2⟩
theorem RepL.get' {K : PySem.W.Frag} {G : Hp} : ∀ {vs : List V} {ds : List D} {i : Nat} {v : V}, RepL K G vs ds → vs[i]? = some v → ∃ d, ds[i]? = some d ∧ Rep K G v d
  | _, _, _, _, .nil, e => by simp at e
  | _, _, 0, _, .cons r _, e => by simp at e; subst e; exact ⟨_, rfl, r⟩
  | _, _, i + 1, d, .cons _ t, e => by
    obtain ⟨v, h1, h2⟩ := RepL.get' (i := i) (v := d) t (by simpa using e)
    exact ⟨v, by simpa using h1, h2⟩
theorem RepL.append {K : PySem.W.Frag} {G : Hp} : ∀ {vs ws : List V} {ds es : List D}, RepL K G vs ds → RepL K G ws es → RepL K G (vs ++ ws) (ds ++ es)
  | _, _, _, _, .nil, r => r
  | _, _, _, _, .cons h t, r => .cons h (RepL.append t r)
theorem RepL.take {K : PySem.W.Frag} {G : Hp} : ∀ {vs : List V} {ds : List D} (n : Nat), RepL K G vs ds → RepL K G (vs.take n) (ds.take n)
  | _, _, 0, _ => .nil
  | _, _, _ + 1, .nil => .nil
  | _, _, n + 1, .cons h t => .cons h (RepL.take n t)
theorem RepL.drop {K : PySem.W.Frag} {G : Hp} : ∀ {vs : List V} {ds : List D} (n : Nat), RepL K G vs ds → RepL K G (vs.drop n) (ds.drop n)
  | _, _, 0, r => r
  | _, _, _ + 1, .nil => .nil
  | _, _, n + 1, .cons h t => RepL.drop n t
theorem RepL.set {K : PySem.W.Frag} {G : Hp} {v : V} {d : D} (hv : Rep K G v d) : ∀ {vs : List V} {ds : List D} (n : Nat), RepL K G vs ds → RepL K G (vs.set n v) (ds.set n d)
  | _, _, _, .nil => .nil
  | _, _, 0, .cons _ t => .cons hv t
  | _, _, n + 1, .cons h t => .cons h (RepL.set hv n t)
theorem RepL.ints {K : PySem.W.Frag} {G : Hp} : ∀ (ns : List Int), RepL K G (ns.map V.int) (ns.map D.int)
  | [] => .nil
  | n :: r => .cons (.int n) (RepL.ints r)
theorem RepL.ints' {K : PySem.W.Frag} {G : Hp} : ∀ {vs : List V} {ns : List Int}, RepL K G vs (ns.map D.int) → vs = ns.map V.int
  | _, [], .nil => rfl
  | _, n :: r, .cons h t => by cases h; rw [RepL.ints' t]; rfl
theorem RepL.none {K : PySem.W.Frag} {G : Hp} {vs : List V} {ds : List D} {i : Nat} (r : RepL K G vs ds) (h : ds[i]? = none) : vs[i]? = none := by
  rw [List.getElem?_eq_none_iff] at h ⊢
  rw [r.length]; exact h

/-- a slot: nothing known; a value (frozen); a list that this slot alone holds -/
inductive Sl where
  | un | val (d : D) | own (xs : List D)
abbrev De := List Sl

/-- the state: F what the callers hold (not ours to touch), G what is frozen -/
structure S (κ : PySem.W.Frag × List (Addr × PySem.Str)) (F : Hp) (σ : L2.St) (G H : Hp) (δ : De) : Prop where
  sub : Same G H
  frm : Same F H
  dis : ∀ b o, F b = some o → G b = none
  len : δ.length = σ.length
  val : ∀ (i : Nat) d, δ[i]? = some (.val d) → ∃ v, σ[i]? = some (some v) ∧ Rep κ.1 G v d
  own : ∀ (i : Nat) xs, δ[i]? = some (.own xs) → ∃ p vs, σ[i]? = some (some (.ref p)) ∧ H p = some (.lst vs) ∧ RepL κ.1 G vs xs ∧ G p = none ∧ F p = none
  inj : ∀ (i j : Nat) xs ys, i ≠ j → δ[i]? = some (.own xs) → δ[j]? = some (.own ys) → σ[i]? ≠ σ[j]?
  tab : LamX.Tabs κ.2 H
  tnf : ∀ p ∈ κ.2, F p.1 = none ∧ G p.1 = none
  ntg : ∀ b ps, G b ≠ some (.tbl ps)
  ntf : κ.2 = [] ∨ ∀ b ps, F b ≠ some (.tbl ps)

/-- a list is changed: no table sees it -/
theorem tabs_lst {T : List (Addr × PySem.Str)} {H : Hp} {p : Addr} {vs ws : List V} (t : LamX.Tabs T H) (h : H p = some (.lst vs)) : LamX.Tabs T (upd H p (.lst ws)) := fun x hx => by
  obtain ⟨ps, h1, h2, h3⟩ := t x hx
  refine ⟨ps, ?_, h2, fun pos cv hc => ?_⟩
  · rw [upd_ne]
    · exact h1
    · intro e; rw [e, h] at h1; cases h1
  · obtain ⟨c, e1, e2⟩ := h3 pos cv hc
    refine ⟨c, e1, ?_⟩
    rw [upd_ne]
    · exact e2
    · intro e
      rw [e, h] at e2
      unfold LamX.CodeO at e2
      cases e2
theorem same_upd {H : Hp} {p : Addr} {o : HO} (h : H p = none) : Same H (upd H p o) := fun b x e => by
  rw [upd_ne (ne_of_none e h)]; exact e
section
variable {K : PySem.W.Frag} {T : List (Addr × PySem.Str)} {F : Hp} {σ : L2.St} {G H : Hp} {δ : De}
/-- a new frozen object -/
theorem S.tab_at (s : S (K, T) F σ G H δ) {x : Addr × PySem.Str} (hx : x ∈ T) : ∃ ps, H x.1 = some (.tbl ps) := let ⟨ps, h, _⟩ := s.tab x hx; ⟨ps, h⟩
theorem S.new (s : S (K, T) F σ G H δ) {p : Addr} {o : HO} (h : H p = none) (no : ∀ ps, o ≠ .tbl ps := by intro _ z; cases z) : S (K, T) F σ (upd G p o) (upd H p o) δ := by
  have hg : G p = none := s.sub.free h
  have sg : Same G (upd G p o) := same_upd hg
  have nb : ∀ b x, H b = some x → b ≠ p := fun b x e => ne_of_none e h
  refine ⟨fun b x e => ?_, fun b x e => ?_, fun b x e => ?_, s.len, fun i d e => ?_, fun i xs e => ?_, s.inj, s.tab.ext (same_upd h), fun x hx => ?_, fun b ps e => ?_, s.ntf⟩
  · by_cases hb : b = p
    · subst hb; rw [upd_same] at e ⊢; exact e
    · rw [upd_ne hb] at e ⊢; exact s.sub _ _ e
  · rw [upd_ne (nb _ _ (s.frm _ _ e))]; exact s.frm _ _ e
  · rw [upd_ne (nb _ _ (s.frm _ _ e))]; exact s.dis _ _ e
  · obtain ⟨v, h1, h2⟩ := s.val i d e
    exact ⟨v, h1, h2.mono sg⟩
  · obtain ⟨q, vs, h1, h2, h3, h4, h5⟩ := s.own i xs e
    exact ⟨q, vs, h1, by rw [upd_ne (nb _ _ h2)]; exact h2, h3.mono sg, by rw [upd_ne (nb _ _ h2)]; exact h4, h5⟩
  · obtain ⟨ps, hp⟩ := s.tab_at hx
    rw [upd_ne (nb _ _ hp)]
    exact s.tnf x hx
  · by_cases hb : b = p
    · subst hb; rw [upd_same] at e; exact no ps (Option.some.inj e)
    · rw [upd_ne hb] at e; exact s.ntg b ps e
/-- a new object that the heap has and nothing is frozen of -/
theorem S.newH (s : S (K, T) F σ G H δ) {p : Addr} {o : HO} (h : H p = none) : S (K, T) F σ G (upd H p o) δ := by
  have nb : ∀ b x, H b = some x → b ≠ p := fun b x e => ne_of_none e h
  refine ⟨fun b x e => ?_, fun b x e => ?_, s.dis, s.len, s.val, fun i xs e => ?_, s.inj, s.tab.ext (same_upd h), s.tnf, s.ntg, s.ntf⟩
  · rw [upd_ne (nb _ _ (s.sub _ _ e))]; exact s.sub _ _ e
  · rw [upd_ne (nb _ _ (s.frm _ _ e))]; exact s.frm _ _ e
  · obtain ⟨q, vs, h1, h2, h3, h4, h5⟩ := s.own i xs e
    exact ⟨q, vs, h1, by rw [upd_ne (nb _ _ h2)]; exact h2, h3, h4, h5⟩
theorem S.new_none (s : S (K, T) F σ G H δ) {p : Addr} (h : H p = none) : G p = none := s.sub.free h
/-- what is frozen is still there in another state -/
theorem S.store (s : S (K, T) F σ G H δ) {v : V} {d : D} (i : Nat) (r : Rep K G v d) : S (K, T) F (σ.set i (some v)) G H (δ.set i (.val d)) := by
  refine ⟨s.sub, s.frm, s.dis, by simp [s.len], fun j e h => ?_, fun j xs h => ?_, fun j k xs ys hn h1 h2 => ?_, s.tab, s.tnf, s.ntg, s.ntf⟩
  · by_cases hj : i = j
    · subst hj
      have hl : i < δ.length := by
        cases Nat.lt_or_ge i δ.length with
        | inl h => exact h
        | inr h' => rw [List.getElem?_eq_none_iff.mpr (by simpa using h')] at h; cases h
      rw [List.getElem?_set_self hl] at h
      cases h
      exact ⟨v, by rw [List.getElem?_set_self (by rw [← s.len]; exact hl)], r⟩
    · rw [List.getElem?_set_ne hj] at h ⊢
      exact s.val j e h
  · by_cases hj : i = j
    · subst hj
      have hl : i < δ.length := by
        cases Nat.lt_or_ge i δ.length with
        | inl h => exact h
        | inr h' => rw [List.getElem?_eq_none_iff.mpr (by simpa using h')] at h; cases h
      rw [List.getElem?_set_self hl] at h
      cases h
    · rw [List.getElem?_set_ne hj] at h ⊢
      exact s.own j xs h
  · have nj : ∀ (j : Nat) (xs : List D), (δ.set i (.val d))[j]? = some (.own xs) → i ≠ j := fun j xs h hj => by
      subst hj
      have hl : i < δ.length := by
        cases Nat.lt_or_ge i δ.length with
        | inl h => exact h
        | inr h' => rw [List.getElem?_eq_none_iff.mpr (by simpa using h')] at h; cases h
      rw [List.getElem?_set_self hl] at h
      cases h
    have n1 := nj j xs h1
    have n2 := nj k ys h2
    rw [List.getElem?_set_ne n1] at h1 ⊢
    rw [List.getElem?_set_ne n2] at h2 ⊢
    exact s.inj j k xs ys hn h1 h2
theorem get_set {α : Type} {l : List α} {i j : Nat} {a b : α} (h : (l.set i a)[j]? = some b) : (i = j ∧ i < l.length ∧ b = a) ∨ (i ≠ j ∧ l[j]? = some b) := by
  by_cases hj : i = j
  · subst hj
    have hl : i < l.length := by
      cases Nat.lt_or_ge i l.length with
      | inl h => exact h
      | inr h' => rw [List.getElem?_eq_none_iff.mpr (by simpa using h')] at h; cases h
    rw [List.getElem?_set_self hl] at h
    cases h
    exact .inl ⟨rfl, hl, rfl⟩
  · rw [List.getElem?_set_ne hj] at h
    exact .inr ⟨hj, h⟩
/-- a slot is forgotten, with whatever stands in it -/
theorem S.wipe (s : S (K, T) F σ G H δ) (i : Nat) (v : Option V) : S (K, T) F (σ.set i v) G H (δ.set i .un) := by
  refine ⟨s.sub, s.frm, s.dis, by simp [s.len], fun j e h => ?_, fun j xs h => ?_, fun j k xs ys hn h1 h2 => ?_, s.tab, s.tnf, s.ntg, s.ntf⟩
  · rcases get_set h with ⟨_, _, z⟩ | ⟨hj, h⟩
    · cases z
    · rw [List.getElem?_set_ne hj]; exact s.val j e h
  · rcases get_set h with ⟨_, _, z⟩ | ⟨hj, h⟩
    · cases z
    · rw [List.getElem?_set_ne hj]; exact s.own j xs h
  · rcases get_set h1 with ⟨_, _, z⟩ | ⟨hj, h1⟩
    · cases z
    · rcases get_set h2 with ⟨_, _, z⟩ | ⟨hk, h2⟩
      · cases z
      · rw [List.getElem?_set_ne hj, List.getElem?_set_ne hk]; exact s.inj j k xs ys hn h1 h2
/-- a new list of one's own is stored -/
theorem S.storeOwn (s : S (K, T) F σ G H δ) {p : Addr} {vs : List V} {xs : List D} (i : Nat) (h : H p = none) (r : RepL K G vs xs) : S (K, T) F (σ.set i (some (.ref p))) G (upd H p (.lst vs)) (δ.set i (.own xs)) := by
  have s1 := s.newH (o := .lst vs) h
  have nb : ∀ b x, H b = some x → b ≠ p := fun b x e => ne_of_none e h
  have gp : G p = none := s.sub.free h
  have fp : F p = none := s.frm.free h
  refine ⟨s1.sub, s1.frm, s1.dis, by simp [s.len], fun j e h' => ?_, fun j ys h' => ?_, fun j k ys zs hn h1 h2 => ?_, s1.tab, s1.tnf, s1.ntg, s1.ntf⟩
  · rcases get_set h' with ⟨_, _, z⟩ | ⟨hj, h'⟩
    · cases z
    · rw [List.getElem?_set_ne hj]; exact s.val j e h'
  · rcases get_set h' with ⟨hj, hl, z⟩ | ⟨hj, h'⟩
    · cases z
      subst hj
      exact ⟨p, vs, by rw [List.getElem?_set_self (by rw [← s.len]; exact hl)], upd_same, r, gp, fp⟩
    · rw [List.getElem?_set_ne hj]; exact s1.own j ys h'
  · have ne : ∀ (j : Nat) ys, δ[j]? = some (.own ys) → σ[j]? ≠ some (some (.ref p)) := fun j ys h' z => by
      obtain ⟨q, ws, e1, e2, _⟩ := s.own j ys h'
      rw [z] at e1
      cases e1
      exact nb _ _ e2 rfl
    rcases get_set h1 with ⟨hj, hl, z⟩ | ⟨hj, h1⟩
    · rcases get_set h2 with ⟨hk, _, z2⟩ | ⟨hk, h2⟩
      · exact absurd (hj.symm.trans hk) hn
      · subst hj
        rw [List.getElem?_set_self (by rw [← s.len]; exact hl), List.getElem?_set_ne hk]
        exact Ne.symm (ne _ _ h2)
    · rcases get_set h2 with ⟨hk, hl, z2⟩ | ⟨hk, h2⟩
      · subst hk
        rw [List.getElem?_set_self (by rw [← s.len]; exact hl), List.getElem?_set_ne hj]
        exact ne _ _ h1
      · rw [List.getElem?_set_ne hj, List.getElem?_set_ne hk]; exact s.inj j k ys zs hn h1 h2
/-- a list of one's own is changed -/
theorem S.setOwn (s : S (K, T) F σ G H δ) {i : Nat} {xs ys : List D} {p : Addr} {ws : List V} (h : δ[i]? = some (.own xs)) (hp : σ[i]? = some (some (.ref p))) (r : RepL K G ws ys) : S (K, T) F σ G (upd H p (.lst ws)) (δ.set i (.own ys)) := by
  obtain ⟨q, vs, e1, e2, e3, e4, e5⟩ := s.own i xs h
  rw [hp] at e1
  cases e1
  have gn : ∀ b x, G b = some x → b ≠ p := fun b x e => ne_of_none e e4
  have fn : ∀ b x, F b = some x → b ≠ p := fun b x e => ne_of_none e e5
  refine ⟨fun b x e => ?_, fun b x e => ?_, s.dis, by simp [s.len], fun j e h' => ?_, fun j zs h' => ?_, fun j k zs us hn h1 h2 => ?_, tabs_lst s.tab e2, s.tnf, s.ntg, s.ntf⟩
  · rw [upd_ne (gn _ _ e)]; exact s.sub _ _ e
  · rw [upd_ne (fn _ _ e)]; exact s.frm _ _ e
  · rcases get_set h' with ⟨_, _, z⟩ | ⟨hj, h'⟩
    · cases z
    · exact s.val j e h'
  · rcases get_set h' with ⟨hj, hl, z⟩ | ⟨hj, h'⟩
    · cases z
      subst hj
      exact ⟨p, ws, hp, upd_same, r, e4, e5⟩
    · obtain ⟨q, us, f1, f2, f3, f4, f5⟩ := s.own j zs h'
      refine ⟨q, us, f1, ?_, f3, f4, f5⟩
      rw [upd_ne]
      · exact f2
      · rintro rfl
        exact s.inj i j xs zs hj h h' (hp.trans f1.symm)
  · have back : ∀ (j : Nat) zs, (δ.set i (.own ys))[j]? = some (.own zs) → ∃ us, δ[j]? = some (.own us) := fun j zs h' => by
      rcases get_set h' with ⟨hj, hl, z⟩ | ⟨hj, h'⟩
      · subst hj; exact ⟨xs, h⟩
      · exact ⟨zs, h'⟩
    obtain ⟨u1, g1⟩ := back j zs h1
    obtain ⟨u2, g2⟩ := back k us h2
    exact s.inj j k u1 u2 hn g1 g2
/-- a list of one's own is frozen: from now on a value -/
theorem S.freeze (s : S (K, T) F σ G H δ) {i : Nat} {xs : List D} (h : δ[i]? = some (.own xs)) : ∃ p vs, σ[i]? = some (some (.ref p)) ∧ G p = none ∧ H p = some (.lst vs) ∧ RepL K G vs xs ∧ S (K, T) F σ (upd G p (.lst vs)) H (δ.set i (.val (.lst xs))) := by
  obtain ⟨p, vs, e1, e2, e3, e4, e5⟩ := s.own i xs h
  refine ⟨p, vs, e1, e4, e2, e3, ?_⟩
  have sg : Same G (upd G p (.lst vs)) := same_upd e4
  refine ⟨fun b x e => ?_, s.frm, fun b x e => ?_, by simp [s.len], fun j d h' => ?_, fun j zs h' => ?_, fun j k zs us hn h1 h2 => ?_, s.tab, fun x hx => ⟨(s.tnf x hx).1, ?_⟩, fun b ps e => ?_, s.ntf⟩
  · by_cases hb : b = p
    · subst hb; rw [upd_same] at e; rw [← e]; exact e2
    · rw [upd_ne hb] at e; exact s.sub _ _ e
  · rw [upd_ne (ne_of_none e e5)]; exact s.dis _ _ e
  · rcases get_set h' with ⟨hj, hl, z⟩ | ⟨hj, h'⟩
    · cases z
      subst hj
      exact ⟨_, e1, .lst upd_same (e3.mono sg)⟩
    · obtain ⟨v, f1, f2⟩ := s.val j d h'
      exact ⟨v, f1, f2.mono sg⟩
  · rcases get_set h' with ⟨hj, hl, z⟩ | ⟨hj, h'⟩
    · cases z
    · obtain ⟨q, us, f1, f2, f3, f4, f5⟩ := s.own j zs h'
      refine ⟨q, us, f1, f2, f3.mono sg, ?_, f5⟩
      rw [upd_ne]
      · exact f4
      · rintro rfl
        exact s.inj i j xs zs hj h h' (e1.trans f1.symm)
  · rcases get_set h1 with ⟨hj, hl, z⟩ | ⟨hj, h1⟩
    · cases z
    · rcases get_set h2 with ⟨hk, hl, z⟩ | ⟨hk, h2⟩
      · cases z
      · exact s.inj j k zs us hn h1 h2
  · obtain ⟨ps, hp⟩ := s.tab_at hx
    rw [upd_ne]
    · exact (s.tnf x hx).2
    · intro e; rw [e, e2] at hp; cases hp
  · by_cases hb : b = p
    · subst hb; rw [upd_same] at e; cases e
    · rw [upd_ne hb] at e; exact s.ntg b ps e
end
end FL

set_option Elab.async false
set_option linter.all false
set_option maxRecDepth 100000
set_option maxHeartbeats 2000000
/-! FL2: effects, contexts, judgements; rules of expressions. -/
namespace FL
open PySem PySem.Spec PyProof.Rows L2

/-! ### effects -/
inductive R (α : Type) where
  | ok (a : α) (δ : De) | ex (c : Nat)
abbrev M (α : Type) := De → Option (R α)
def bindM {α β : Type} (m : M α) (k : α → M β) : M β := fun δ => match m δ with
  | none => none
  | some (.ex c) => some (.ex c)
  | some (.ok a δ') => k a δ'
def pureM {α : Type} (a : α) : M α := fun δ => some (.ok a δ)
def liftO {α : Type} : Option α → M α
  | some a => pureM a
  | none => fun _ => none
@[simp] theorem liftO_some {α : Type} (a : α) : liftO (some a) = pureM a := rfl
@[simp] theorem liftO_none {α : Type} : liftO (none : Option α) = fun _ => none := rfl
@[simp] theorem bindM_pure {α β : Type} (a : α) (k : α → M β) : bindM (pureM a) k = k a := rfl
theorem bindM_ok {α β : Type} {m : M α} {k : α → M β} {δ δ' : De} {a : α} (h : m δ = some (.ok a δ')) : bindM m k δ = k a δ' := by unfold bindM; rw [h]
theorem bindM_ex {α β : Type} {m : M α} {k : α → M β} {δ : De} {c : Nat} (h : m δ = some (.ex c)) : bindM m k δ = some (.ex c) := by unfold bindM; rw [h]

section
variable (κ : PySem.W.Frag × List (Addr × PySem.Str)) (cl : Nat → Addr) (E : XK) (F : Hp) (σ : L2.St) (G : Hp)
def Post {ν α : Type} (RA : Hp → ν → α → Prop) (Q : ν → Hp → Prop) : R α → Prop
  | .ok a δ' => ∀ G' H' v, S κ F σ G' H' δ' → Same G G' → RA G' v a → Q v H'
  | .ex c => ∀ G' H', Same G G' → Same G' H' → Same F H' → E (.ref (cl c)) none H'
end
def Sp2 (κ : PySem.W.Frag × List (Addr × PySem.Str)) (cl : Nat → Addr) (E : XK) {ν α : Type} (RA : Hp → ν → α → Prop) (t : L2.St → Hp → (ν → Hp → Prop) → Prop) (f : M α) : Prop :=
  ∀ F σ G H δ r, S κ F σ G H δ → f δ = some r → ∀ Q, Post κ cl E F σ G RA Q r → t σ H Q
section
variable {K : PySem.W.Frag} {T : List (Addr × PySem.Str)} {cl : Nat → Addr} {E : XK}
theorem Post.weak {F : Hp} {σ : L2.St} {G G1 : Hp} {ν α : Type} {RA : Hp → ν → α → Prop} {Q : ν → Hp → Prop} (e : Same G G1) : ∀ {r : R α}, Post (K, T) cl E F σ G RA Q r → Post (K, T) cl E F σ G1 RA Q r
  | .ok _ _, h => fun G' H' v s g => h G' H' v s (e.trans g)
  | .ex _, h => fun G' H' g => h G' H' (e.trans g)
theorem Sp2.bind {ν μ α β : Type} {RA : Hp → ν → α → Prop} {RB : Hp → μ → β → Prop} {ta : L2.St → Hp → (ν → Hp → Prop) → Prop} {fa : M α} (ha : Sp2 (K, T) cl E RA ta fa)
    {k : ν → L2.St → Hp → (μ → Hp → Prop) → Prop} {g : α → M β}
    (hk : ∀ F σ G H δ x a r, S (K, T) F σ G H δ → RA G x a → g a δ = some r → ∀ Q, Post (K, T) cl E F σ G RB Q r → k x σ H Q) :
    Sp2 (K, T) cl E RB (fun σ H Q => ta σ H fun x H1 => k x σ H1 Q) (bindM fa g) := by
  intro F σ G H δ r s e Q p
  unfold bindM at e
  cases h : fa δ with
  | none => rw [h] at e; cases e
  | some ra =>
    rw [h] at e
    refine ha F σ G H δ ra s h _ ?_
    cases ra with
    | ex c =>
      cases e
      exact p
    | ok a δ' =>
      exact fun G' H' v s' g' rv => hk F σ G' H' δ' v a r s' rv e Q (p.weak g')
theorem Sp2.pure {ν α : Type} {RA : Hp → ν → α → Prop} {v : ν} {a : α} (h : ∀ G, RA G v a) : Sp2 (K, T) cl E RA (fun _ H Q => Q v H) (pureM a) := by
  intro F σ G H δ r s e Q p
  cases e
  exact p G H v s (Same.refl _) (h G)
end

/-- a step: the first part, then the rest from where it leaves -/
theorem Sp2.step {K : PySem.W.Frag} {T : List (Addr × PySem.Str)} {cl : Nat → Addr} {E : XK} {ν μ α β : Type} {RA : Hp → ν → α → Prop} {RB : Hp → μ → β → Prop} {ta : L2.St → Hp → (ν → Hp → Prop) → Prop} {fa : M α} (ha : Sp2 (K, T) cl E RA ta fa) {F : Hp} {σ : L2.St} {G H : Hp} {δ : De} {g : α → M β} {r : R β} {Q : μ → Hp → Prop} {k : ν → Hp → Prop}
    (s : S (K, T) F σ G H δ) (e : bindM fa g δ = some r) (p : Post (K, T) cl E F σ G RB Q r)
    (hk : ∀ G' H' δ' x a, S (K, T) F σ G' H' δ' → Same G G' → RA G' x a → g a δ' = some r → Post (K, T) cl E F σ G' RB Q r → k x H') : ta σ H k := by
  unfold bindM at e
  cases h : fa δ with
  | none => rw [h] at e; cases e
  | some ra =>
    rw [h] at e
    refine ha F σ G H δ ra s h _ ?_
    cases ra with
    | ex c =>
      cases e
      exact p
    | ok a δ' => exact fun G' H' v s' g' rv => hk G' H' δ' v a s' g' rv e (p.weak g')
theorem liftO_eq {β : Type} {o : Option β} {δ : De} {r : R β} (e : liftO o δ = some r) : ∃ b, o = some b ∧ r = .ok b δ := by
  cases o with
  | none => cases e
  | some b => cases e; exact ⟨b, rfl, rfl⟩

/-! ### contexts -/
structure SC where
  P : Program
  w : World
  K : PySem.W.Frag
  mg : Str → Option Value
  base : Heap
  N : List Str
  sc : Scope
  k : Nat
  cl : Nat → Addr
  E : XK
  st : Str → Bool
  T : List (Addr × PySem.Str)
  code : Value
  qual : Str
abbrev SC.κ (c : SC) : PySem.W.Frag × List (Addr × PySem.Str) := (c.K, c.T)
structure In (c : SC) (X : Cx) : Prop where
  P : X.prog = c.P
  w : X.w = c.w
  K : X.K = c.K
  mg : X.mg = c.mg
  base : X.base = c.base
  N : X.N = c.N
  sc : X.env.scope = c.sc
  calm : X.calm = true
  room : Room c.k X.A
  tk : Takes X (fun cls d _ H => c.E cls d H)
  fn : ∀ x, c.st x = true → X.fn x = true ∨ X.env.scope.names.lookup x = some .local
  po : PassesOwn (model X.prog X.w) X.A X.env X.xe
  code : c.T = [] ∨ (X.env.code = c.code ∧ X.env.qual = c.qual)

structure FE (c : SC) (e : Expr) (f : M D) : Prop where
  ex : ∃ t, (∀ X, In c X → PE X e t) ∧ Sp2 c.κ c.cl c.E (Rep c.K) t f
structure FA (c : SC) (es : List Expr) (f : M (List D)) : Prop where
  ex : ∃ t, (∀ X, In c X → PA X es t) ∧ Sp2 c.κ c.cl c.E (RepL c.K) t f
def RepB (_ : Hp) (b b' : Bool) : Prop := b = b'
structure FT (c : SC) (e : Expr) (f : M Bool) : Prop where
  ex : ∃ t, (∀ X, In c X → PT X e t) ∧ Sp2 c.κ c.cl c.E RepB t f
structure FW (c : SC) (e : Expr) (f : M Bool) : Prop where
  ex : ∃ t, (∀ X, In c X → PW X e t) ∧ Sp2 c.κ c.cl c.E RepB t f

section
variable {c : SC}
/-! ### names, constants -/
def varM (i : Nat) : M D := fun δ => match δ[i]? with
  | some (.val d) => some (.ok d δ)
  | _ => none
theorem fe_var (i : Nat) {x : Str} {pos : Pos} (hN : c.N[i]? = some x := by rfl) (hv : Vis c.sc x := by first | exact Or.inl rfl | exact Or.inr (Or.inl rfl) | exact Or.inr (Or.inr rfl)) (hd : (x == ("__debug__" : Str)) = false := by decide)
    (hcd : (x == ("__classdict__" : Str)) = false := by decide) : FE c (.Name x pos) (varM i) := by
  refine ⟨tVar i, fun X h => pe_var (by rw [h.N]; exact hN) (by rw [h.sc]; exact hv) hd hcd, fun F σ G H δ r s e Q p => ?_⟩
  unfold varM at e
  split at e
  · rename_i d hd
    cases e
    obtain ⟨v, h1, h2⟩ := s.val i d hd
    exact ⟨v, h1, p G H v s (Same.refl _) h2⟩
  · cases e
theorem fe_int {i : Int} {j pos} : FE c (.Constant (.int i) j pos) (pureM (.int i)) := ⟨_, fun _ _ => pe_int, Sp2.pure fun _ => .int i⟩
theorem fe_bl {b : Bool} {j pos} : FE c (.Constant (.bool b) j pos) (pureM (.bl b)) := ⟨_, fun _ _ => pe_bl, Sp2.pure fun _ => .bl b⟩
theorem fe_non {j pos} : FE c (.Constant .none j pos) (pureM .non) := ⟨_, fun _ _ => pe_non, Sp2.pure fun _ => .non⟩
theorem fe_str {x : Str} {j pos} : FE c (.Constant (.str x) j pos) (pureM (.str x)) := ⟨_, fun _ _ => pe_str, Sp2.pure fun _ => .str x⟩
/-- a module's constant -/
structure Const (K : PySem.W.Frag) (mg : Str → Option Value) (x : Str) (d : D) : Prop where
  ex : ∃ v u, mg x = some u ∧ RelV v u ∧ ∀ G, Rep K G v d
theorem fe_const {x : Str} {d : D} {pos : Pos} (h : Const c.K c.mg x d) (hg : c.sc.names.lookup x = some .globalImplicit := by rfl) (hd : (x == ("__debug__" : Str)) = false := by decide) : FE c (.Name x pos) (pureM d) := by
  obtain ⟨v, u, hm, r, hr⟩ := h.ex
  exact ⟨_, fun X h => pe_glob (show X.env.scope.names.lookup x = _ by rw [h.sc]; exact hg) (by rw [h.mg]; exact hm) r hd, Sp2.pure hr⟩

/-! ### operators -/
structure Op2 (K : PySem.W.Frag) (r : R2) (g : D → D → Option D) : Prop where
  run : ∀ T F σ G H δ v u a b d, S (K, T) F σ G H δ → Rep K G v a → Rep K G u b → g a b = some d → ∀ Q : VK, (∀ G' H' w, S (K, T) F σ G' H' δ → Same G G' → Rep K G' w d → Q w H') → r v u H Q
def bin2 (g : D → D → Option D) (fa fb : M D) : M D := bindM fa fun x => bindM fb fun y => liftO (g x y)
theorem Sp2.op2 {K : PySem.W.Frag} {T : List (Addr × PySem.Str)} {cl : Nat → Addr} {E : XK} {r : R2} {g : D → D → Option D} {ta tb : TE} {fa fb : M D} (hr : Op2 K r g) (ha : Sp2 (K, T) cl E (Rep K) ta fa) (hb : Sp2 (K, T) cl E (Rep K) tb fb) : Sp2 (K, T) cl E (Rep K) (tOp r ta tb) (bin2 g fa fb) := by
  intro F σ G H δ r s e Q p
  refine ha.step s e p fun G1 H1 δ1 x a s1 g1 rx e1 p1 => ?_
  refine hb.step s1 e1 p1 fun G2 H2 δ2 y b s2 g2 ry e2 p2 => ?_
  obtain ⟨d, hd, rfl⟩ := liftO_eq e2
  exact hr.run _ F σ G2 H2 δ2 x y a b d s2 (rx.mono g2) ry hd Q fun G' H' w s' g' rw' => p2 G' H' w s' g' rw'
theorem Op2.or {K : PySem.W.Frag} {r r' : R2} {g g' : D → D → Option D} (h : Op2 K r g) (h' : Op2 K r' g') : Op2 K (fun x y H Q => r x y H Q ∨ r' x y H Q) (fun a b => (g a b).or (g' a b)) := by
  refine ⟨fun T F σ G H δ v u a b d s rv ru e Q q => ?_⟩
  cases h1 : g a b with
  | some d' =>
    rw [h1, Option.some_or] at e
    cases e
    exact .inl (h.run _ F σ G H δ v u a b _ s rv ru h1 Q q)
  | none =>
    rw [h1, Option.none_or] at e
    exact .inr (h'.run _ F σ G H δ v u a b _ s rv ru e Q q)
theorem Op2.imp {K : PySem.W.Frag} {r : R2} {g g' : D → D → Option D} (h : Op2 K r g) (i : ∀ a b d, g' a b = some d → g a b = some d) : Op2 K r g' :=
  ⟨fun T F σ G H δ v u a b d s rv ru e Q q => h.run _ F σ G H δ v u a b d s rv ru (i _ _ _ e) Q q⟩
def int2 (gd : Int → Int → D) : D → D → Option D
  | .int i, .int j => some (gd i j)
  | _, _ => none
def int2C (C : Int → Int → Prop) [∀ i j, Decidable (C i j)] (gd : Int → Int → D) : D → D → Option D
  | .int i, .int j => if C i j then some (gd i j) else none
  | _, _ => none
theorem op2_I0 {K : PySem.W.Frag} {g : Int → Int → V} {gd : Int → Int → D} (h : ∀ i j G, Rep K G (g i j) (gd i j)) : Op2 K (rI0 g) (int2 gd) := by
  refine ⟨fun T F σ G H δ v u a b d s rv ru e Q q => ?_⟩
  unfold int2 at e
  split at e
  · cases e
    cases rv
    cases ru
    exact ⟨_, _, rfl, rfl, q G H _ s (Same.refl _) (h _ _ _)⟩
  · cases e
theorem op2_I {K : PySem.W.Frag} {C : Int → Int → Prop} [∀ i j, Decidable (C i j)] {g : Int → Int → V} {gd : Int → Int → D} (h : ∀ i j G, Rep K G (g i j) (gd i j)) : Op2 K (rI C g) (int2C C gd) := by
  refine ⟨fun T F σ G H δ v u a b d s rv ru e Q q => ?_⟩
  unfold int2C at e
  split at e
  · split at e
    · rename_i hC
      cases e
      cases rv
      cases ru
      exact ⟨_, _, rfl, rfl, hC, q G H _ s (Same.refl _) (h _ _ _)⟩
    · cases e
  · cases e
instance (i j : Int) : Decidable (CMul i j) := by unfold CMul; infer_instance
instance (i j : Int) : Decidable (CDiv i j) := by unfold CDiv; infer_instance
instance (i j : Int) : Decidable (CPow i j) := by unfold CPow; infer_instance
theorem fe_op {op : Operator} {r : R2} {g : D → D → Option D} {a b : Expr} {fa fb : M D} {pos : Pos} (ho : ∀ X, In c X → OpR X (binaryOp op) r) (hr : Op2 c.K r g) (ha : FE c a fa) (hb : FE c b fb) : FE c (.BinOp a op b pos) (bin2 g fa fb) := by
  obtain ⟨ta, pa, sa⟩ := ha.ex
  obtain ⟨tb, pb, sb⟩ := hb.ex
  exact ⟨_, fun X h => pe_op (ho X h) (pa X h) (pb X h), Sp2.op2 hr sa sb⟩
def subD := int2 fun i j => .int (i - j)
def mulD := int2C CMul fun i j => .int (i * j)
def fdivD := int2C CDiv fun i j => .int (i / j)
def modD := int2C (fun _ j => 0 < j) fun i j => .int (i % j)
def powD := int2C CPow fun i j => .int (i ^ j.toNat)
theorem fe_sub {a b : Expr} {fa fb : M D} {pos : Pos} (ha : FE c a fa) (hb : FE c b fb) : FE c (.BinOp a .Sub b pos) (bin2 subD fa fb) := fe_op (fun _ _ => op_sub) (op2_I0 fun _ _ _ => .int _) ha hb
theorem fe_mul {a b : Expr} {fa fb : M D} {pos : Pos} (ha : FE c a fa) (hb : FE c b fb) : FE c (.BinOp a .Mult b pos) (bin2 mulD fa fb) := fe_op (fun _ _ => op_mul) (op2_I fun _ _ _ => .int _) ha hb
theorem fe_fdiv {a b : Expr} {fa fb : M D} {pos : Pos} (ha : FE c a fa) (hb : FE c b fb) : FE c (.BinOp a .FloorDiv b pos) (bin2 fdivD fa fb) := fe_op (fun _ _ => op_fdiv) (op2_I fun _ _ _ => .int _) ha hb
theorem fe_mod {a b : Expr} {fa fb : M D} {pos : Pos} (ha : FE c a fa) (hb : FE c b fb) : FE c (.BinOp a .Mod b pos) (bin2 modD fa fb) := fe_op (fun _ _ => op_mod) (op2_I fun _ _ _ => .int _) ha hb
theorem fe_pow {a b : Expr} {fa fb : M D} {pos : Pos} (ha : FE c a fa) (hb : FE c b fb) : FE c (.BinOp a .Pow b pos) (bin2 powD fa fb) := fe_op (fun _ _ => op_pow) (op2_I fun _ _ _ => .int _) ha hb
/-- + of ints, texts, lists -/
def strAdd : D → D → Option D
  | .str x, .str y => if x.length + y.length ≤ sizeLine then some (.str (x ++ y)) else none
  | _, _ => none
theorem op2_strAdd {K : PySem.W.Frag} : Op2 K (fun x y H Q => ∃ i j, x = V.str i ∧ y = V.str j ∧ i.length + j.length ≤ sizeLine ∧ Q (.str (i ++ j)) H) strAdd := by
  refine ⟨fun T F σ G H δ v u a b d s rv ru e Q q => ?_⟩
  unfold strAdd at e
  split at e
  · split at e
    · rename_i hC
      cases e
      cases rv
      cases ru
      exact ⟨_, _, rfl, rfl, hC, q G H _ s (Same.refl _) (.str _)⟩
    · cases e
  · cases e
def lstAdd : D → D → Option D
  | .lst x, .lst y => if x.length + y.length ≤ 1000000 then some (.lst (x ++ y)) else none
  | _, _ => none
theorem small6 {n : Nat} (h : n ≤ 1000000) : n ≤ sizeLine := by rw [sizeLine_eq]; omega
theorem op2_cat {K : PySem.W.Frag} : Op2 K rCat lstAdd := by
  refine ⟨fun T F σ G H δ v u a b d s rv ru e Q q => ?_⟩
  unfold lstAdd at e
  split at e
  · split at e
    · rename_i hC
      cases e
      cases rv with
      | lst h1 r1 =>
        cases ru with
        | lst h2 r2 =>
          refine ⟨_, _, _, _, rfl, rfl, s.sub _ _ h1, s.sub _ _ h2, by rw [r1.length, r2.length]; exact small6 hC, fun p hp => ?_⟩
          have gp := s.sub.free hp
          exact q _ _ _ (s.new hp) (same_upd gp) (.lst upd_same ((r1.mono (same_upd gp)).append (r2.mono (same_upd gp))))
    · cases e
  · cases e
def addD (a b : D) : Option D := (int2 (fun i j => .int (i + j)) a b).or ((strAdd a b).or (lstAdd a b))
theorem fe_add {a b : Expr} {fa fb : M D} {pos : Pos} (ha : FE c a fa) (hb : FE c b fb) : FE c (.BinOp a .Add b pos) (bin2 addD fa fb) :=
  fe_op (fun _ _ => op_add.or (op_add_str.or op_cat)) ((op2_I0 fun _ _ _ => .int _).or (op2_strAdd.or op2_cat)) ha hb
/-! unary minus -/
def negD : D → Option D
  | .int i => some (.int (-i))
  | _ => none
def un1 (g : D → Option D) (fa : M D) : M D := bindM fa fun x => liftO (g x)
theorem fe_neg {a : Expr} {fa : M D} {pos : Pos} (ha : FE c a fa) : FE c (.UnaryOp .USub a pos) (un1 negD fa) := by
  obtain ⟨ta, pa, sa⟩ := ha.ex
  refine ⟨_, fun X h => pe_un un_neg (pa X h), fun F σ G H δ r s e Q p => ?_⟩
  refine sa.step s e p fun G1 H1 δ1 x a s1 g1 rx e1 p1 => ?_
  obtain ⟨d, hd, rfl⟩ := liftO_eq e1
  cases a <;> cases hd
  cases rx
  exact ⟨_, rfl, p1 G1 H1 _ s1 (Same.refl _) (.int _)⟩

/-! ### comparisons -/
mutual
def toPy : D → Option PyData
  | .non => some .none
  | .bl b => some (.bool b)
  | .int i => some (.int i)
  | .str s => some (.str s)
  | .lst xs => (toPyL xs).map .list
  | .tup xs => (toPyL xs).map .tuple
  | .ins _ _ => none
def toPyL : List D → Option (List PyData)
  | [] => some []
  | x :: xs => match toPy x, toPyL xs with
    | some a, some b => some (a :: b)
    | _, _ => none
end
mutual
theorem Rep.dp {K : PySem.W.Frag} {G : Hp} : ∀ {d : D} {v : V} {p : PyData}, Rep K G v d → toPy d = some p → Dp K G v p
  | .non, _, _, h, e => by cases h; cases e; exact .non
  | .bl b, _, _, h, e => by cases h; cases e; exact .bl b
  | .int i, _, _, h, e => by cases h; cases e; exact .int i
  | .str x, _, _, h, e => by cases h; cases e; exact .str x
  | .lst xs, _, _, h, e => by
    cases h with
    | lst h1 h2 =>
      rw [toPy] at e
      cases q : toPyL xs with
      | none => rw [q] at e; cases e
      | some ps => rw [q] at e; cases e; exact .lst (.of h1) (RepL.dp h2 q)
  | .tup xs, _, _, h, e => by
    cases h with
    | tup h1 h2 =>
      rw [toPy] at e
      cases q : toPyL xs with
      | none => rw [q] at e; cases e
      | some ps => rw [q] at e; cases e; exact .tup h1 (RepL.dp h2 q)
  | .ins _ _, _, _, _, e => by cases e
theorem RepL.dp {K : PySem.W.Frag} {G : Hp} : ∀ {ds : List D} {vs : List V} {ps : List PyData}, RepL K G vs ds → toPyL ds = some ps → DpAll K G vs ps
  | [], _, _, h, e => by cases h; cases e; exact .nil
  | d :: ds, _, _, h, e => by
    cases h with
    | cons h1 h2 =>
      rw [toPyL] at e
      split at e
      · rename_i a b q1 q2
        cases e
        exact .cons (Rep.dp h1 q1) (RepL.dp h2 q2)
      · cases e
end
mutual
theorem dp_mono {K : PySem.W.Frag} {G G' : Hp} (e : Same G G') : ∀ {v : V} {d : PyData}, Dp K G v d → Dp K G' v d
  | _, _, .non => .non
  | _, _, .bl b => .bl b
  | _, _, .int i => .int i
  | _, _, .str x => .str x
  | _, _, .lst h r => .lst (e.seq h) (dpAll_mono e r)
  | _, _, .tup h r => .tup (seqT e h) (dpAll_mono e r)
theorem dpAll_mono {K : PySem.W.Frag} {G G' : Hp} (e : Same G G') : ∀ {v : List V} {d : List PyData}, DpAll K G v d → DpAll K G' v d
  | _, _, .nil => .nil
  | _, _, .cons h r => .cons (dp_mono e h) (dpAll_mono e r)
end
/-- == by value; none where it is not served -/
def eqB (a b : D) : Option Bool := match toPy a, toPy b with
  | some p, some q => if SeqAt.shaped p && SeqAt.shaped q then some (PyData.eqv p q) else none
  | _, _ => none
def eqD (a b : D) : Option D := (eqB a b).map .bl
def neD (a b : D) : Option D := (eqB a b).map fun k => .bl (!k)
theorem eqB_some {a b : D} {k : Bool} (h : eqB a b = some k) : ∃ p q, toPy a = some p ∧ toPy b = some q ∧ SeqAt.shaped p = true ∧ SeqAt.shaped q = true ∧ PyData.eqv p q = k := by
  unfold eqB at h
  split at h
  · rename_i p q h1 h2
    split at h
    · rename_i h3
      cases h
      rw [Bool.and_eq_true] at h3
      exact ⟨p, q, h1, h2, h3.1, h3.2, rfl⟩
    · cases h
  · cases h
theorem op2_eq {K : PySem.W.Frag} : Op2 K (rEqD K) eqD := by
  refine ⟨fun T F σ G H δ v u a b d s rv ru e Q q => ?_⟩
  unfold eqD at e
  cases h : eqB a b with
  | none => rw [h] at e; cases e
  | some k =>
    rw [h] at e
    cases e
    obtain ⟨p, p', h1, h2, h3, h4, h5⟩ := eqB_some h
    exact ⟨p, p', dp_mono s.sub (rv.dp h1), dp_mono s.sub (ru.dp h2), h3, h4, q G H _ s (Same.refl _) (h5 ▸ .bl _)⟩
theorem op2_ne {K : PySem.W.Frag} : Op2 K (rNeD K) neD := by
  refine ⟨fun T F σ G H δ v u a b d s rv ru e Q q => ?_⟩
  unfold neD at e
  cases h : eqB a b with
  | none => rw [h] at e; cases e
  | some k =>
    rw [h] at e
    cases e
    obtain ⟨p, p', h1, h2, h3, h4, h5⟩ := eqB_some h
    exact ⟨p, p', dp_mono s.sub (rv.dp h1), dp_mono s.sub (ru.dp h2), h3, h4, q G H _ s (Same.refl _) (h5 ▸ .bl _)⟩
def ltD := int2 fun i j => .bl (decide (i < j))
def leD := int2 fun i j => .bl (decide (i ≤ j))
def gtD := int2 fun i j => .bl (decide (j < i))
def geD := int2 fun i j => .bl (decide (j ≤ i))
def isN (neg : Bool) : D → D → Option D
  | .non, .non => some (.bl (!neg))
  | _, .non => some (.bl neg)
  | _, _ => none
theorem op2_isN {K : PySem.W.Frag} : Op2 K (fun x y H Q => y = V.non ∧ Q (.bl (decide (x = .non))) H) (isN false) := by
  refine ⟨fun T F σ G H δ v u a b d s rv ru e Q q => ?_⟩
  unfold isN at e
  split at e
  · cases e; cases rv; cases ru; exact ⟨rfl, q G H _ s (Same.refl _) (.bl _)⟩
  · rename_i hn
    cases e; cases ru
    refine ⟨rfl, q G H _ s (Same.refl _) ?_⟩
    have : v ≠ V.non := by rintro rfl; cases rv; exact hn rfl
    rw [decide_eq_false this]
    exact .bl _
  · cases e
theorem op2_notN {K : PySem.W.Frag} : Op2 K (fun x y H Q => y = V.non ∧ Q (.bl (!decide (x = .non))) H) (isN true) := by
  refine ⟨fun T F σ G H δ v u a b d s rv ru e Q q => ?_⟩
  unfold isN at e
  split at e
  · cases e; cases rv; cases ru; exact ⟨rfl, q G H _ s (Same.refl _) (.bl _)⟩
  · rename_i hn
    cases e; cases ru
    refine ⟨rfl, q G H _ s (Same.refl _) ?_⟩
    have : v ≠ V.non := by rintro rfl; cases rv; exact hn rfl
    rw [decide_eq_false this]
    exact .bl _
  · cases e
/-- in of flat values -/
def flatOf : D → Option V
  | .non => some .non
  | .bl b => some (.bl b)
  | .int i => some (.int i)
  | .str x => some (.str x)
  | _ => none
theorem Rep.flat {K : PySem.W.Frag} {G : Hp} {v w : V} {d : D} (r : Rep K G v d) (h : flatOf d = some w) : v = w ∧ flatV w = true := by
  cases d <;> simp only [flatOf, Option.some.injEq, reduceCtorEq] at h
  all_goals (subst h; cases r; exact ⟨rfl, rfl⟩)
def flatL : List D → Option (List V)
  | [] => some []
  | x :: xs => match flatOf x, flatL xs with
    | some a, some b => some (a :: b)
    | _, _ => none
theorem RepL.flat {K : PySem.W.Frag} {G : Hp} : ∀ {vs ws : List V} {ds : List D}, RepL K G vs ds → flatL ds = some ws → vs = ws ∧ ws.all flatV = true
  | _, _, [], .nil, e => by cases e; exact ⟨rfl, rfl⟩
  | _, _, d :: ds, .cons h t, e => by
    rw [flatL] at e
    split at e
    · rename_i a b q1 q2
      cases e
      obtain ⟨rfl, h1⟩ := h.flat q1
      obtain ⟨rfl, h2⟩ := RepL.flat t q2
      exact ⟨rfl, by simp only [List.all_cons, h1, h2, Bool.and_self]⟩
    · cases e
def inB (a b : D) : Option Bool := match flatOf a with
  | none => none
  | some x => match b with
    | .lst ds => (flatL ds).map fun ws => inV x ws
    | .tup ds => (flatL ds).map fun ws => inV x ws
    | _ => none
def inD (neg : Bool) (a b : D) : Option D := (inB a b).map fun k => .bl (if neg then !k else k)
theorem op2_in {K : PySem.W.Frag} (neg : Bool) : Op2 K (rIn K neg) (inD neg) := by
  refine ⟨fun T F σ G H δ v u a b d s rv ru e Q q => ?_⟩
  unfold inD at e
  cases h : inB a b with
  | none => rw [h] at e; cases e
  | some k =>
    rw [h] at e
    cases e
    unfold inB at h
    cases h1 : flatOf a with
    | none => rw [h1] at h; cases h
    | some x =>
      rw [h1] at h
      obtain ⟨rfl, f1⟩ := rv.flat h1
      cases b with
      | lst ds =>
        dsimp only at h
        cases h2 : flatL ds with
        | none => rw [h2] at h; cases h
        | some ws =>
          rw [h2] at h
          cases h
          cases ru with
          | lst g1 r1 =>
            obtain ⟨rfl, f2⟩ := r1.flat h2
            exact ⟨_, _, rfl, .inl (.of (s.sub _ _ g1)), f1, f2, q G H _ s (Same.refl _) (.bl _)⟩
      | tup ds =>
        dsimp only at h
        cases h2 : flatL ds with
        | none => rw [h2] at h; cases h
        | some ws =>
          rw [h2] at h
          cases h
          cases ru with
          | tup g1 r1 =>
            obtain ⟨rfl, f2⟩ := r1.flat h2
            exact ⟨_, _, rfl, .inr (seqT s.sub g1), f1, f2, q G H _ s (Same.refl _) (.bl _)⟩
      | _ => cases h
theorem fe_cmp {op : CmpOp} {r : R2} {g : D → D → Option D} {a b : Expr} {fa fb : M D} {pos : Pos} (ho : ∀ X, In c X → OpR X (compareOp op) r) (hr : Op2 c.K r g) (ha : FE c a fa) (hb : FE c b fb) (hm : behindInMarks op b = false) : FE c (.Compare a [op] [b] pos) (bin2 g fa fb) := by
  obtain ⟨ta, pa, sa⟩ := ha.ex
  obtain ⟨tb, pb, sb⟩ := hb.ex
  exact ⟨_, fun X h => pe_cmpR (ho X h) (pa X h) (pb X h) hm, Sp2.op2 hr sa sb⟩
def toB : D → Option Bool
  | .bl b => some b
  | _ => none
theorem ft_cmp {op : CmpOp} {r : R2} {g : D → D → Option D} {a b : Expr} {fa fb : M D} {pos : Pos} (ho : ∀ X, In c X → OpR X (compareOp op) r) (hr : Op2 c.K r g) (ha : FE c a fa) (hb : FE c b fb) (hm : behindInMarks op b = false) : FT c (.Compare a [op] [b] pos) (bindM (bin2 g fa fb) fun d => liftO (toB d)) := by
  obtain ⟨ta, pa, sa⟩ := ha.ex
  obtain ⟨tb, pb, sb⟩ := hb.ex
  refine ⟨_, fun X h => pt_cmpR (ho X h) (pa X h) (pb X h) hm, fun F σ G H δ r s e Q p => ?_⟩
  refine (Sp2.op2 hr sa sb).step s e p fun G1 H1 δ1 x d s1 g1 rx e1 p1 => ?_
  obtain ⟨k, hk, rfl⟩ := liftO_eq e1
  cases d <;> cases hk
  cases rx
  exact ⟨_, rfl, p1 G1 H1 _ s1 (Same.refl _) rfl⟩
theorem In.units {c : SC} {X : Cx} (h : In c X) : X.A.units + 64 < cLine := h.room.units
section
variable {a b d : Expr} {fa fb fd : M D} {pos : Pos}
theorem fe_eq (ha : FE c a fa) (hb : FE c b fb) : FE c (.Compare a [.Eq] [b] pos) (bin2 eqD fa fb) := fe_cmp (fun X h => by have := op_eqD (X := X) h.units; rwa [h.K] at this) op2_eq ha hb (nomark _)
theorem fe_ne (ha : FE c a fa) (hb : FE c b fb) : FE c (.Compare a [.NotEq] [b] pos) (bin2 neD fa fb) := fe_cmp (fun X h => by have := op_neD (X := X) h.units; rwa [h.K] at this) op2_ne ha hb (nomark _)
theorem fe_lt (ha : FE c a fa) (hb : FE c b fb) : FE c (.Compare a [.Lt] [b] pos) (bin2 ltD fa fb) := fe_cmp (fun X h => op_lt) (op2_I0 fun _ _ _ => .bl _) ha hb (nomark _)
theorem fe_le (ha : FE c a fa) (hb : FE c b fb) : FE c (.Compare a [.LtE] [b] pos) (bin2 leD fa fb) := fe_cmp (fun X h => op_le) (op2_I0 fun _ _ _ => .bl _) ha hb (nomark _)
theorem fe_gt (ha : FE c a fa) (hb : FE c b fb) : FE c (.Compare a [.Gt] [b] pos) (bin2 gtD fa fb) := fe_cmp (fun X h => op_gt) (op2_I0 fun _ _ _ => .bl _) ha hb (nomark _)
theorem fe_ge (ha : FE c a fa) (hb : FE c b fb) : FE c (.Compare a [.GtE] [b] pos) (bin2 geD fa fb) := fe_cmp (fun X h => op_ge) (op2_I0 fun _ _ _ => .bl _) ha hb (nomark _)
theorem fe_is (ha : FE c a fa) (hb : FE c b fb) : FE c (.Compare a [.Is] [b] pos) (bin2 (isN false) fa fb) := fe_cmp (fun X h => op_isN) op2_isN ha hb (nomark _)
theorem fe_isnot (ha : FE c a fa) (hb : FE c b fb) : FE c (.Compare a [.IsNot] [b] pos) (bin2 (isN true) fa fb) := fe_cmp (fun X h => op_notN) op2_notN ha hb (nomark _)
theorem fe_in (ha : FE c a fa) (hb : FE c b fb) (hm : behindInMarks .In b = false := by rfl) : FE c (.Compare a [.In] [b] pos) (bin2 (inD false) fa fb) := fe_cmp (fun X h => by have := op_in_seq (X := X); rwa [h.K] at this) (op2_in false) ha hb hm
theorem fe_notin (ha : FE c a fa) (hb : FE c b fb) (hm : behindInMarks .NotIn b = false := by rfl) : FE c (.Compare a [.NotIn] [b] pos) (bin2 (inD true) fa fb) := fe_cmp (fun X h => by have := op_notIn_seq (X := X); rwa [h.K] at this) (op2_in true) ha hb hm
def tst (f : M D) : M Bool := bindM f fun d => liftO (toB d)
theorem ft_eq (ha : FE c a fa) (hb : FE c b fb) : FT c (.Compare a [.Eq] [b] pos) (tst (bin2 eqD fa fb)) := ft_cmp (fun X h => by have := op_eqD (X := X) h.units; rwa [h.K] at this) op2_eq ha hb (nomark _)
theorem ft_ne (ha : FE c a fa) (hb : FE c b fb) : FT c (.Compare a [.NotEq] [b] pos) (tst (bin2 neD fa fb)) := ft_cmp (fun X h => by have := op_neD (X := X) h.units; rwa [h.K] at this) op2_ne ha hb (nomark _)
theorem ft_lt (ha : FE c a fa) (hb : FE c b fb) : FT c (.Compare a [.Lt] [b] pos) (tst (bin2 ltD fa fb)) := ft_cmp (fun X h => op_lt) (op2_I0 fun _ _ _ => .bl _) ha hb (nomark _)
theorem ft_le (ha : FE c a fa) (hb : FE c b fb) : FT c (.Compare a [.LtE] [b] pos) (tst (bin2 leD fa fb)) := ft_cmp (fun X h => op_le) (op2_I0 fun _ _ _ => .bl _) ha hb (nomark _)
theorem ft_gt (ha : FE c a fa) (hb : FE c b fb) : FT c (.Compare a [.Gt] [b] pos) (tst (bin2 gtD fa fb)) := ft_cmp (fun X h => op_gt) (op2_I0 fun _ _ _ => .bl _) ha hb (nomark _)
theorem ft_ge (ha : FE c a fa) (hb : FE c b fb) : FT c (.Compare a [.GtE] [b] pos) (tst (bin2 geD fa fb)) := ft_cmp (fun X h => op_ge) (op2_I0 fun _ _ _ => .bl _) ha hb (nomark _)
theorem ft_is (ha : FE c a fa) (hb : FE c b fb) : FT c (.Compare a [.Is] [b] pos) (tst (bin2 (isN false) fa fb)) := ft_cmp (fun X h => op_isN) op2_isN ha hb (nomark _)
theorem ft_isnot (ha : FE c a fa) (hb : FE c b fb) : FT c (.Compare a [.IsNot] [b] pos) (tst (bin2 (isN true) fa fb)) := ft_cmp (fun X h => op_notN) op2_notN ha hb (nomark _)
theorem ft_in (ha : FE c a fa) (hb : FE c b fb) (hm : behindInMarks .In b = false := by rfl) : FT c (.Compare a [.In] [b] pos) (tst (bin2 (inD false) fa fb)) := ft_cmp (fun X h => by have := op_in_seq (X := X); rwa [h.K] at this) (op2_in false) ha hb hm
theorem ft_notin (ha : FE c a fa) (hb : FE c b fb) (hm : behindInMarks .NotIn b = false := by rfl) : FT c (.Compare a [.NotIn] [b] pos) (tst (bin2 (inD true) fa fb)) := ft_cmp (fun X h => by have := op_notIn_seq (X := X); rwa [h.K] at this) (op2_in true) ha hb hm
/-- a < b < c -/
def chainM (g g' : D → D → Option D) (fa fb fc : M D) : M D := bindM fa fun x => bindM fb fun y => bindM (liftO (g x y)) fun z => bindM (liftO (toB z)) fun k => if k then bindM fc fun w => liftO (g' y w) else pureM (.bl false)
theorem Sp2.chain {K : PySem.W.Frag} {T : List (Addr × PySem.Str)} {cl : Nat → Addr} {E : XK} {r r' : R2} {g g' : D → D → Option D} {ta tb tc : TE} {fa fb fc : M D} (hr : Op2 K r g) (hr' : Op2 K r' g') (ha : Sp2 (K, T) cl E (Rep K) ta fa) (hb : Sp2 (K, T) cl E (Rep K) tb fb) (hc : Sp2 (K, T) cl E (Rep K) tc fc) :
    Sp2 (K, T) cl E (Rep K) (tChain r r' ta tb tc) (chainM g g' fa fb fc) := by
  intro F σ G H δ r s e Q p
  refine ha.step s e p fun G1 H1 δ1 x a s1 g1 rx e1 p1 => ?_
  refine hb.step s1 e1 p1 fun G2 H2 δ2 y b s2 g2 ry e2 p2 => ?_
  cases h1 : g a b with
  | none => rw [h1] at e2; cases e2
  | some z =>
    rw [h1, liftO_some, bindM_pure] at e2
    refine hr.run _ F σ G2 H2 δ2 x y a b z s2 (rx.mono g2) ry h1 _ fun G3 H3 w s3 g3 rw3 => ?_
    cases z <;> try (cases e2)
    rename_i k
    cases rw3
    refine ⟨k, rfl, ?_⟩
    rw [show toB (.bl k) = some k from rfl, liftO_some, bindM_pure] at e2
    cases k with
    | false =>
      rw [if_neg Bool.false_ne_true]
      rw [if_neg Bool.false_ne_true] at e2
      cases e2
      exact p2 G3 H3 _ s3 g3 (.bl _)
    | true =>
      rw [if_pos rfl]
      rw [if_pos rfl] at e2
      refine hc.step s3 e2 (p2.weak g3) fun G4 H4 δ4 w' d s4 g4 rd e4 p4 => ?_
      obtain ⟨d', hd', rfl⟩ := liftO_eq e4
      exact hr'.run _ F σ G4 H4 δ4 y w' b d d' s4 (ry.mono (g3.trans g4)) rd hd' Q fun G' H' w s' g' rw' => p4 G' H' w s' g' rw'
theorem fe_chain {op op' : CmpOp} {r r' : R2} {g g' : D → D → Option D} (ho : ∀ X, In c X → OpR X (compareOp op) r) (ho' : ∀ X, In c X → OpR X (compareOp op') r') (hr : Op2 c.K r g) (hr' : Op2 c.K r' g') (ha : FE c a fa) (hb : FE c b fb) (hd : FE c d fd)
    (hm : lastMarks [op, op'] [b, d] = false) : FE c (.Compare a [op, op'] [b, d] pos) (chainM g g' fa fb fd) := by
  obtain ⟨ta, pa, sa⟩ := ha.ex
  obtain ⟨tb, pb, sb⟩ := hb.ex
  obtain ⟨td, pd, sd⟩ := hd.ex
  exact ⟨_, fun X h => pe_chain (ho X h) (ho' X h) (pa X h) (pb X h) (pd X h) hm, Sp2.chain hr hr' sa sb sd⟩
theorem ft_chain {op op' : CmpOp} {r r' : R2} {g g' : D → D → Option D} (ho : ∀ X, In c X → OpR X (compareOp op) r) (ho' : ∀ X, In c X → OpR X (compareOp op') r') (hr : Op2 c.K r g) (hr' : Op2 c.K r' g') (ha : FE c a fa) (hb : FE c b fb) (hd : FE c d fd)
    (hm : lastMarks [op, op'] [b, d] = false) : FT c (.Compare a [op, op'] [b, d] pos) (tst (chainM g g' fa fb fd)) := by
  obtain ⟨ta, pa, sa⟩ := ha.ex
  obtain ⟨tb, pb, sb⟩ := hb.ex
  obtain ⟨td, pd, sd⟩ := hd.ex
  refine ⟨_, fun X h => pt_chain (ho X h) (ho' X h) (pa X h) (pb X h) (pd X h) hm, fun F σ G H δ r s e Q p => ?_⟩
  refine (Sp2.chain hr hr' sa sb sd).step s e p fun G1 H1 δ1 x d s1 g1 rx e1 p1 => ?_
  obtain ⟨k, hk, rfl⟩ := liftO_eq e1
  cases d <;> cases hk
  cases rx
  exact ⟨_, rfl, p1 G1 H1 _ s1 (Same.refl _) rfl⟩
theorem fe_lele (ha : FE c a fa) (hb : FE c b fb) (hd : FE c d fd) (hm : lastMarks [.LtE, .LtE] [b, d] = false := by with_unfolding_all rfl) : FE c (.Compare a [.LtE, .LtE] [b, d] pos) (chainM leD leD fa fb fd) := fe_chain (fun _ _ => op_le) (fun _ _ => op_le) (op2_I0 fun _ _ _ => .bl _) (op2_I0 fun _ _ _ => .bl _) ha hb hd hm
theorem ft_lele (ha : FE c a fa) (hb : FE c b fb) (hd : FE c d fd) (hm : lastMarks [.LtE, .LtE] [b, d] = false := by with_unfolding_all rfl) : FT c (.Compare a [.LtE, .LtE] [b, d] pos) (tst (chainM leD leD fa fb fd)) := ft_chain (fun _ _ => op_le) (fun _ _ => op_le) (op2_I0 fun _ _ _ => .bl _) (op2_I0 fun _ _ _ => .bl _) ha hb hd hm
theorem fe_lelt (ha : FE c a fa) (hb : FE c b fb) (hd : FE c d fd) (hm : lastMarks [.LtE, .Lt] [b, d] = false := by with_unfolding_all rfl) : FE c (.Compare a [.LtE, .Lt] [b, d] pos) (chainM leD ltD fa fb fd) := fe_chain (fun _ _ => op_le) (fun _ _ => op_lt) (op2_I0 fun _ _ _ => .bl _) (op2_I0 fun _ _ _ => .bl _) ha hb hd hm
theorem ft_lelt (ha : FE c a fa) (hb : FE c b fb) (hd : FE c d fd) (hm : lastMarks [.LtE, .Lt] [b, d] = false := by with_unfolding_all rfl) : FT c (.Compare a [.LtE, .Lt] [b, d] pos) (tst (chainM leD ltD fa fb fd)) := ft_chain (fun _ _ => op_le) (fun _ _ => op_lt) (op2_I0 fun _ _ _ => .bl _) (op2_I0 fun _ _ _ => .bl _) ha hb hd hm
theorem ft_ltlt (ha : FE c a fa) (hb : FE c b fb) (hd : FE c d fd) (hm : lastMarks [.Lt, .Lt] [b, d] = false := by with_unfolding_all rfl) : FT c (.Compare a [.Lt, .Lt] [b, d] pos) (tst (chainM ltD ltD fa fb fd)) := ft_chain (fun _ _ => op_lt) (fun _ _ => op_lt) (op2_I0 fun _ _ _ => .bl _) (op2_I0 fun _ _ _ => .bl _) ha hb hd hm

/-! ### and, or, not; tests; x if t else y -/
theorem fe_one {op : BoolOp} (ha : FE c a fa) : FE c (.BoolOp op [a] pos) fa := by
  obtain ⟨ta, pa, sa⟩ := ha.ex
  exact ⟨ta, fun X h => pe_one (pa X h), sa⟩
def andM (fa fb : M D) : M D := bindM fa fun x => bindM (liftO (toB x)) fun k => if k then fb else pureM (.bl false)
def orM (fa fb : M D) : M D := bindM fa fun x => bindM (liftO (toB x)) fun k => if k then pureM (.bl true) else fb
theorem fe_and {rest : List Expr} (ha : FE c a fa) (hb : FE c (.BoolOp .And (b :: rest) pos) fb) : FE c (.BoolOp .And (a :: b :: rest) pos) (andM fa fb) := by
  obtain ⟨ta, pa, sa⟩ := ha.ex
  obtain ⟨tb, pb, sb⟩ := hb.ex
  refine ⟨_, fun X h => pe_and (pa X h) (pb X h), fun F σ G H δ r s e Q p => ?_⟩
  refine sa.step s e p fun G1 H1 δ1 x d s1 g1 rx e1 p1 => ?_
  cases d <;> try (cases e1)
  rename_i k
  cases rx
  refine ⟨k, rfl, ?_⟩
  rw [show toB (.bl k) = some k from rfl, liftO_some, bindM_pure] at e1
  cases k with
  | false => cases e1; rw [if_neg Bool.false_ne_true]; exact p1 G1 H1 _ s1 (Same.refl _) (.bl _)
  | true => rw [if_pos rfl]; exact sb F σ G1 H1 δ1 r s1 e1 Q p1
theorem fe_or {rest : List Expr} (ha : FE c a fa) (hb : FE c (.BoolOp .Or (b :: rest) pos) fb) : FE c (.BoolOp .Or (a :: b :: rest) pos) (orM fa fb) := by
  obtain ⟨ta, pa, sa⟩ := ha.ex
  obtain ⟨tb, pb, sb⟩ := hb.ex
  refine ⟨_, fun X h => pe_or (pa X h) (pb X h), fun F σ G H δ r s e Q p => ?_⟩
  refine sa.step s e p fun G1 H1 δ1 x d s1 g1 rx e1 p1 => ?_
  cases d <;> try (cases e1)
  rename_i k
  cases rx
  refine ⟨k, rfl, ?_⟩
  rw [show toB (.bl k) = some k from rfl, liftO_some, bindM_pure] at e1
  cases k with
  | true => cases e1; rw [if_pos rfl]; exact p1 G1 H1 _ s1 (Same.refl _) (.bl _)
  | false => rw [if_neg Bool.false_ne_true]; exact sb F σ G1 H1 δ1 r s1 e1 Q p1
def notM (fa : M D) : M D := bindM fa fun x => bindM (liftO (toB x)) fun k => pureM (.bl (!k))
theorem fe_not (ha : FE c a fa) : FE c (.UnaryOp .Not a pos) (notM fa) := by
  obtain ⟨ta, pa, sa⟩ := ha.ex
  refine ⟨_, fun X h => pe_not (pa X h), fun F σ G H δ r s e Q p => ?_⟩
  refine sa.step s e p fun G1 H1 δ1 x d s1 g1 rx e1 p1 => ?_
  cases d <;> try (cases e1)
  rename_i k
  cases rx
  exact ⟨k, rfl, p1 G1 H1 _ s1 (Same.refl _) (.bl _)⟩
theorem ft_val (ha : FE c a fa) (he : ∀ (env : Env) whole, isTrue a env whole = (do let v ← whole; standAt a.pos; holding [v] (truthy v)) := by intro _ _; rfl) : FT c a (tst fa) := by
  obtain ⟨ta, pa, sa⟩ := ha.ex
  refine ⟨_, fun X h => pt_val (pa X h) (he _), fun F σ G H δ r s e Q p => ?_⟩
  refine sa.step s e p fun G1 H1 δ1 x d s1 g1 rx e1 p1 => ?_
  cases d <;> try (cases e1)
  rename_i k
  cases rx
  exact ⟨k, rfl, p1 G1 H1 _ s1 (Same.refl _) rfl⟩
theorem ft_not {f : M Bool} (ha : FT c a f) : FT c (.UnaryOp .Not a pos) (bindM f fun k => pureM (!k)) := by
  obtain ⟨ta, pa, sa⟩ := ha.ex
  refine ⟨_, fun X h => pt_not (pa X h), fun F σ G H δ r s e Q p => ?_⟩
  refine sa.step s e p fun G1 H1 δ1 x d s1 g1 rx e1 p1 => ?_
  cases e1
  cases rx
  exact p1 G1 H1 _ s1 (Same.refl _) rfl
theorem fw_and1 {f : M Bool} (ha : FT c a f) : FW c (.BoolOp .And [a] pos) f := by
  obtain ⟨ta, pa, sa⟩ := ha.ex
  exact ⟨_, fun X h => pw_and1 (pa X h), sa⟩
theorem fw_or1 {f : M Bool} (ha : FT c a f) : FW c (.BoolOp .Or [a] pos) f := by
  obtain ⟨ta, pa, sa⟩ := ha.ex
  exact ⟨_, fun X h => pw_or1 (pa X h), sa⟩
def andT (f g : M Bool) : M Bool := bindM f fun k => if k then g else pureM false
def orT (f g : M Bool) : M Bool := bindM f fun k => if k then pureM true else g
theorem fw_and {rest : List Expr} {f g : M Bool} (ha : FT c a f) (hb : FW c (.BoolOp .And (b :: rest) pos) g) : FW c (.BoolOp .And (a :: b :: rest) pos) (andT f g) := by
  obtain ⟨ta, pa, sa⟩ := ha.ex
  obtain ⟨tb, pb, sb⟩ := hb.ex
  refine ⟨_, fun X h => pw_and (pa X h) (pb X h), fun F σ G H δ r s e Q p => ?_⟩
  refine sa.step s e p fun G1 H1 δ1 x k s1 g1 rx e1 p1 => ?_
  have ek : x = k := rx
  subst ek
  cases x with
  | false => cases e1; rw [if_neg Bool.false_ne_true]; exact p1 G1 H1 _ s1 (Same.refl _) rfl
  | true => rw [if_pos rfl]; exact sb F σ G1 H1 δ1 r s1 e1 Q p1
theorem fw_or {rest : List Expr} {f g : M Bool} (ha : FT c a f) (hb : FW c (.BoolOp .Or (b :: rest) pos) g) : FW c (.BoolOp .Or (a :: b :: rest) pos) (orT f g) := by
  obtain ⟨ta, pa, sa⟩ := ha.ex
  obtain ⟨tb, pb, sb⟩ := hb.ex
  refine ⟨_, fun X h => pw_or (pa X h) (pb X h), fun F σ G H δ r s e Q p => ?_⟩
  refine sa.step s e p fun G1 H1 δ1 x k s1 g1 rx e1 p1 => ?_
  have ek : x = k := rx
  subst ek
  cases x with
  | true => cases e1; rw [if_pos rfl]; exact p1 G1 H1 _ s1 (Same.refl _) rfl
  | false => rw [if_neg Bool.false_ne_true]; exact sb F σ G1 H1 δ1 r s1 e1 Q p1
theorem ft_w {f : M Bool} (ha : FW c a f) : FT c a f := by
  obtain ⟨ta, pa, sa⟩ := ha.ex
  exact ⟨_, fun X h => (pa X h).pt, sa⟩
def iteM {α : Type} (f : M Bool) (x y : M α) : M α := bindM f fun k => if k then x else y
theorem fe_ite {f : M Bool} (hd : FT c d f) (ha : FE c a fa) (hb : FE c b fb) : FE c (.IfExp d a b pos) (iteM f fa fb) := by
  obtain ⟨td, pd, sd⟩ := hd.ex
  obtain ⟨ta, pa, sa⟩ := ha.ex
  obtain ⟨tb, pb, sb⟩ := hb.ex
  refine ⟨_, fun X h => pe_ifExp (pd X h) (pa X h) (pb X h), fun F σ G H δ r s e Q p => ?_⟩
  refine sd.step s e p fun G1 H1 δ1 x k s1 g1 rx e1 p1 => ?_
  have ek : x = k := rx
  subst ek
  cases x with
  | true => rw [if_pos rfl]; exact sa F σ G1 H1 δ1 r s1 e1 Q p1
  | false => rw [if_neg Bool.false_ne_true]; exact sb F σ G1 H1 δ1 r s1 e1 Q p1
end

/-! ### argument lists, displays -/
section
variable {e : Expr} {es : List Expr} {f : M D} {g : M (List D)} {pos : Pos}
theorem fa_nil : FA c [] (pureM []) := ⟨_, fun _ _ => pa_nil, Sp2.pure fun _ => .nil⟩
def consM (f : M D) (g : M (List D)) : M (List D) := bindM f fun x => bindM g fun r => pureM (x :: r)
theorem fa_cons (he : FE c e f) (hr : FA c es g) (hs : ∀ env : Env, starEach (e :: es) env = (false, eval e env) :: starEach es env := by intro _; rfl) : FA c (e :: es) (consM f g) := by
  obtain ⟨ta, pa, sa⟩ := he.ex
  obtain ⟨tb, pb, sb⟩ := hr.ex
  refine ⟨_, fun X h => pa_cons (pa X h) (pb X h) (hs _), fun F σ G H δ r s e Q p => ?_⟩
  refine sa.step s e p fun G1 H1 δ1 x d s1 g1 rx e1 p1 => ?_
  refine sb.step s1 e1 p1 fun G2 H2 δ2 y ds s2 g2 ry e2 p2 => ?_
  cases e2
  exact p2 G2 H2 _ s2 (Same.refl _) (.cons (rx.mono g2) ry)
def tupM (f : M (List D)) : M D := bindM f fun ds => if ds.length ≤ 1000000 then pureM (.tup ds) else fun _ => none
def lstM (f : M (List D)) : M D := bindM f fun ds => if ds.length ≤ 1000000 then pureM (.lst ds) else fun _ => none
theorem fe_tup {x1} (h : FA c es g) : FE c (.Tuple es x1 pos) (tupM g) := by
  obtain ⟨ta, pa, sa⟩ := h.ex
  refine ⟨_, fun X h => pe_tup (pa X h), fun F σ G H δ r s e Q p => ?_⟩
  refine sa.step s e p fun G1 H1 δ1 xs ds s1 g1 rx e1 p1 => ?_
  split at e1
  · rename_i hl
    cases e1
    refine ⟨by rw [rx.length]; exact small6 hl, fun q hq => ?_⟩
    have gp := s1.sub.free hq
    exact p1 _ _ _ (s1.new hq) (same_upd gp) (.tup (.of upd_same) (rx.mono (same_upd gp)))
  · cases e1
theorem fe_lst (h : FA c es g) : FE c (.List es pos) (lstM g) := by
  obtain ⟨ta, pa, sa⟩ := h.ex
  refine ⟨_, fun X h => pe_lst (pa X h), fun F σ G H δ r s e Q p => ?_⟩
  refine sa.step s e p fun G1 H1 δ1 xs ds s1 g1 rx e1 p1 => ?_
  split at e1
  · rename_i hl
    cases e1
    refine ⟨by rw [rx.length]; exact small6 hl, fun q hq => ?_⟩
    have gp := s1.sub.free hq
    exact p1 _ _ _ (s1.new hq) (same_upd gp) (.lst upd_same (rx.mono (same_upd gp)))
  · cases e1
end
end
end FL

set_option Elab.async false
set_option linter.all false
set_option maxRecDepth 100000
set_option maxHeartbeats 2000000
/-! FL3: built-ins, subscripts, slices; calls of defs. -/
namespace FL
open PySem PySem.Spec PyProof.Rows L2
abbrev Gb (c : SC) (x : Str) : Prop := c.sc.names.lookup x = some .globalImplicit
section
variable {c : SC}
/-! ### subscripts -/
theorem RepL.atI {K : PySem.W.Frag} {G : Hp} {vs : List V} {ds : List D} {i : Int} {d : D} (r : RepL K G vs ds) (h : atI ds i = some d) : ∃ v, L2.atI vs i = some v ∧ Rep K G v d := by
  unfold L2.atI at h ⊢
  rw [r.length]
  cases e : ixN ds.length i with
  | none => rw [e] at h; cases h
  | some j =>
    rw [e] at h
    obtain ⟨v, h1, h2⟩ := r.get (show ds[j]? = some d from h)
    exact ⟨v, h1, h2⟩
def ixD : D → D → Option D
  | .lst ds, .int i => atI ds i
  | .tup ds, .int i => atI ds i
  | .str z, .int i => if z.length ≤ sizeLine then (atI z.cps.toList i).map fun k => .str ⟨#[k]⟩ else none
  | _, _ => none
theorem op2_ix {K : PySem.W.Frag} : Op2 K (rIx K) ixD := by
  refine ⟨fun T F σ G H δ v u a b d s rv ru e Q q => ?_⟩
  unfold ixD at e
  split at e
  · rename_i ds i
    cases ru
    cases rv with
    | lst h1 h2 =>
      obtain ⟨w, e1, e2⟩ := h2.atI e
      exact .inl ⟨_, _, i, w, rfl, rfl, .of (s.sub _ _ h1), e1, q G H _ s (Same.refl _) e2⟩
  · rename_i ds i
    cases ru
    cases rv with
    | tup h1 h2 =>
      obtain ⟨w, e1, e2⟩ := h2.atI e
      exact .inr (.inl ⟨_, _, i, w, rfl, rfl, seqT s.sub h1, e1, q G H _ s (Same.refl _) e2⟩)
  · rename_i z i
    cases ru
    cases rv
    split at e
    · rename_i hz
      cases h : atI z.cps.toList i with
      | none => rw [h] at e; cases e
      | some k =>
        rw [h] at e
        cases e
        exact .inr (.inr ⟨z, i, k, rfl, rfl, hz, h, q G H _ s (Same.refl _) (.str _)⟩)
    · cases e
  · cases e
theorem fe_ix {a b : Expr} {fa fb : M D} {pos : Pos} (ha : FE c a fa) (hb : FE c b fb) (hs : PlainIx b := by intro _ _; rfl) : FE c (.Subscript a b pos) (bin2 ixD fa fb) := by
  obtain ⟨ta, pa, sa⟩ := ha.ex
  obtain ⟨tb, pb, sb⟩ := hb.ex
  exact ⟨_, fun X h => by have := pe_ix (X := X) (pos := pos) ix_seq (pa X h) (pb X h) hs; rwa [h.K] at this, Sp2.op2 op2_ix sa sb⟩
/-! ### slices -/
structure FO (c : SC) (e : Option Expr) (f : M (Option Int)) : Prop where
  ex : ∃ t, (∀ X, In c X → PO X e t) ∧ Sp2 c.κ c.cl c.E (fun _ (o o' : Option Int) => o = o') t f
theorem fo_none : FO c none (pureM none) := ⟨_, fun _ _ => po_none, Sp2.pure fun _ => rfl⟩
def intM (f : M D) : M (Option Int) := bindM f fun d => match d with | .int i => pureM (some i) | _ => fun _ => none
theorem fo_some {e : Expr} {f : M D} (h : FE c e f) : FO c (some e) (intM f) := by
  obtain ⟨ta, pa, sa⟩ := h.ex
  refine ⟨_, fun X h => po_some (pa X h), fun F σ G H δ r s e Q p => ?_⟩
  refine sa.step s e p fun G1 H1 δ1 x d s1 g1 rx e1 p1 => ?_
  cases d <;> try (cases e1)
  rename_i i
  cases rx
  exact ⟨i, rfl, p1 G1 H1 _ s1 (Same.refl _) rfl⟩
def cutL {α : Type} (xs : List α) (lo hi : Option Int) : List α := (xs.drop (HT.sIx xs.length 0 lo)).take (HT.sIx xs.length xs.length hi - HT.sIx xs.length 0 lo)
theorem RepL.cut {K : PySem.W.Frag} {G : Hp} {vs : List V} {ds : List D} (r : RepL K G vs ds) (lo hi : Option Int) : RepL K G (cutV vs lo hi) (cutL ds lo hi) := by
  unfold cutV cutL
  rw [r.length]
  exact (r.drop _).take _
def slD (d : D) (lo hi : Option Int) : Option D := match d with
  | .lst ds => some (.lst (cutL ds lo hi))
  | .tup ds => if HT.sIx ds.length 0 lo = 0 ∧ HT.sIx ds.length ds.length hi = ds.length then none else some (.tup (cutL ds lo hi))
  | _ => none
theorem fe_slice {e : Expr} {lo hi : Option Expr} {f : M D} {fl fh : M (Option Int)} {pos p2 : Pos} (he : FE c e f) (hl : FO c lo fl) (hh : FO c hi fh) :
    FE c (.Subscript e (.Slice lo hi none p2) pos) (bindM f fun d => bindM fl fun l => bindM fh fun h => liftO (slD d l h)) := by
  obtain ⟨ta, pa, sa⟩ := he.ex
  obtain ⟨tl, pl, sl⟩ := hl.ex
  obtain ⟨th, ph, sh⟩ := hh.ex
  refine ⟨_, fun X h => by have := pe_slice (X := X) (pos := pos) (p2 := p2) (sl_list.or sl_tup) (pa X h) (pl X h) (ph X h); rwa [h.K] at this, fun F σ G H δ r s e Q p => ?_⟩
  refine sa.step s e p fun G1 H1 δ1 x d s1 g1 rx e1 p1 => ?_
  refine sl.step s1 e1 p1 fun G2 H2 δ2 y l s2 g2 ry e2 p2 => ?_
  refine sh.step s2 e2 p2 fun G3 H3 δ3 z h s3 g3 rz e3 p3 => ?_
  obtain ⟨d', hd', rfl⟩ := liftO_eq e3
  cases ry
  cases rz
  have rx3 := rx.mono (g2.trans g3)
  unfold slD at hd'
  split at hd'
  · cases hd'
    cases rx3 with
    | lst h1 h2 =>
      refine .inl ⟨_, _, rfl, .of (s3.sub _ _ h1), fun q hq => ?_⟩
      have gp := s3.sub.free hq
      exact p3 _ _ _ (s3.new hq) (same_upd gp) (.lst upd_same ((h2.cut _ _).mono (same_upd gp)))
  · split at hd'
    · cases hd'
    · rename_i hn
      cases hd'
      cases rx3 with
      | tup h1 h2 =>
        refine .inr ⟨_, _, rfl, seqT s3.sub h1, by rw [h2.length]; exact hn, fun q hq => ?_⟩
        have gp := s3.sub.free hq
        exact p3 _ _ _ (s3.new hq) (same_upd gp) (.tup (.of upd_same) ((h2.cut _ _).mono (same_upd gp)))
  · cases hd'

/-! ### built-ins -/
structure Cb (K : PySem.W.Frag) (r : List V → Hp → VK → Prop) (g : List D → Option D) : Prop where
  run : ∀ T F σ G H δ vs ds d, S (K, T) F σ G H δ → RepL K G vs ds → g ds = some d → ∀ Q : VK, (∀ G' H' w, S (K, T) F σ G' H' δ → Same G G' → Rep K G' w d → Q w H') → r vs H Q
theorem Cb.or {K : PySem.W.Frag} {r r' : List V → Hp → VK → Prop} {g g' : List D → Option D} (h : Cb K r g) (h' : Cb K r' g') : Cb K (fun xs H Q => r xs H Q ∨ r' xs H Q) (fun ds => (g ds).or (g' ds)) := by
  refine ⟨fun T F σ G H δ vs ds d s rv e Q q => ?_⟩
  cases h1 : g ds with
  | some d' =>
    rw [h1, Option.some_or] at e
    cases e
    exact .inl (h.run _ F σ G H δ vs ds _ s rv h1 Q q)
  | none =>
    rw [h1, Option.none_or] at e
    exact .inr (h'.run _ F σ G H δ vs ds _ s rv e Q q)
def callB (g : List D → Option D) (fa : M (List D)) : M D := bindM fa fun ds => liftO (g ds)
theorem Sp2.cb {K : PySem.W.Frag} {T : List (Addr × PySem.Str)} {cl : Nat → Addr} {E : XK} {r : List V → Hp → VK → Prop} {g : List D → Option D} {t : TA} {f : M (List D)} (hr : Cb K r g) (ha : Sp2 (K, T) cl E (RepL K) t f) : Sp2 (K, T) cl E (Rep K) (tCB r t) (callB g f) := by
  intro F σ G H δ r s e Q p
  refine ha.step s e p fun G1 H1 δ1 x ds s1 g1 rx e1 p1 => ?_
  obtain ⟨d, hd, rfl⟩ := liftO_eq e1
  exact hr.run _ F σ G1 H1 δ1 x ds d s1 rx hd Q fun G' H' w s' g' rw' => p1 G' H' w s' g' rw'
theorem fe_callB {id : String} {r : List V → Hp → VK → Prop} {g : List D → Option D} {x : Str} {p pos : Pos} {e : Expr} {es : List Expr} {f : M (List D)} (hm : c.mg x = none) (hc : ∀ X, In c X → CallR X (.builtin id) r) (hr : Cb c.K r g) (ha : FA c (e :: es) f)
    (hv : bootBuiltins x = some (.builtin id)) (hg : Gb c x := by rfl)
    (hn : x ≠ "__name__" := by decide) (hdb : (x == ("__debug__" : Str)) = false := by decide)
    (he : ∀ env : Env, starEach (e :: es) env = (false, eval e env) :: starEach es env := by intro _; rfl) (hpl : ∀ env : Env, (backTo pos (starEach es env)).any (·.1) = false := by intro _; rfl) :
    FE c (.Call (.Name x p) (e :: es) [] pos) (callB g f) := by
  obtain ⟨t, pa, sa⟩ := ha.ex
  exact ⟨_, fun X h => pe_callB (hc X h) (show X.env.scope.names.lookup x = _ by rw [h.sc]; exact hg) (by rw [h.mg]; exact hm) hv (pa X h) hn hdb (he _) (hpl _), Sp2.cb hr sa⟩
theorem fe_callTy {T : String} {r : List V → Hp → VK → Prop} {g : List D → Option D} {x : Str} {p pos : Pos} {e : Expr} {es : List Expr} {f : M (List D)} (hm : c.mg x = none) (hc : ∀ X, In c X → CallR X (.type T) r) (hr : Cb c.K r g) (ha : FA c (e :: es) f)
    (hv : bootBuiltins x = some (.type T)) (hg : Gb c x := by rfl)
    (hn : x ≠ "__name__" := by decide) (hdb : (x == ("__debug__" : Str)) = false := by decide)
    (he : ∀ env : Env, starEach (e :: es) env = (false, eval e env) :: starEach es env := by intro _; rfl) (hpl : ∀ env : Env, (backTo pos (starEach es env)).any (·.1) = false := by intro _; rfl) :
    FE c (.Call (.Name x p) (e :: es) [] pos) (callB g f) := by
  obtain ⟨t, pa, sa⟩ := ha.ex
  exact ⟨_, fun X h => pe_callTy (hc X h) (show X.env.scope.names.lookup x = _ by rw [h.sc]; exact hg) (by rw [h.mg]; exact hm) hv (pa X h) hn hdb (he _) (hpl _), Sp2.cb hr sa⟩
def absI (i : Int) : Int := if i < 0 then -i else i
def absD : List D → Option D
  | [.int i] => some (.int (absI i))
  | _ => none
theorem cb_abs {K : PySem.W.Frag} : Cb K (fun xs H Q => ∃ i, xs = [V.int i] ∧ Q (.int (if i < 0 then -i else i)) H) absD := by
  refine ⟨fun T F σ G H δ vs ds d s rv e Q q => ?_⟩
  unfold absD at e
  split at e
  · rename_i i
    cases e
    cases rv with
    | cons h t =>
      cases t
      cases h
      exact ⟨i, rfl, q G H _ s (Same.refl _) (.int _)⟩
  · cases e
theorem fe_abs {p pos : Pos} {e : Expr} {f : M (List D)} (hm : c.mg "abs" = none) (ha : FA c [e] f) (hg : Gb c "abs" := by rfl) (he : ∀ env : Env, starEach [e] env = (false, eval e env) :: starEach [] env := by intro _; rfl) :
    FE c (.Call (.Name "abs" p) [e] [] pos) (callB absD f) :=
  fe_callB hm (fun _ _ => call_abs) cb_abs ha (by first | exact PySem.boot_abs | decide +kernel) hg (he := he)
/-- max and min of a list of ints; of two ints -/
def intsOf : List D → Option (List Int)
  | [] => some []
  | .int i :: r => (intsOf r).map (i :: ·)
  | _ => none
theorem intsOf_some : ∀ {ds : List D} {ns : List Int}, intsOf ds = some ns → ds = ns.map D.int
  | [], ns, h => by cases h; rfl
  | .int i :: r, ns, h => by
    rw [intsOf] at h
    cases q : intsOf r with
    | none => rw [q] at h; cases h
    | some ms => rw [q] at h; cases h; rw [intsOf_some q]; rfl
  | .non :: _, _, h => by cases h
  | .bl _ :: _, _, h => by cases h
  | .str _ :: _, _, h => by cases h
  | .lst _ :: _, _, h => by cases h
  | .tup _ :: _, _, h => by cases h
  | .ins _ _ :: _, _, h => by cases h
theorem intsOf_map : ∀ ns : List Int, intsOf (ns.map D.int) = some ns
  | [] => rfl
  | n :: r => by rw [List.map_cons, intsOf, intsOf_map r]; rfl
def maxL : List Int → Int
  | [] => 0
  | [x] => x
  | x :: y :: r => let m := maxL (y :: r); if x < m then m else x
def minL : List Int → Int
  | [] => 0
  | [x] => x
  | x :: y :: r => let m := minL (y :: r); if m < x then m else x
theorem maxL_mem : ∀ {l : List Int}, 0 < l.length → maxL l ∈ l
  | [], h => by simp at h
  | [x], _ => by simp [maxL]
  | x :: y :: r, _ => by
    have ih := maxL_mem (l := y :: r) (by simp)
    simp only [maxL]
    split
    · exact List.mem_cons_of_mem _ ih
    · exact List.mem_cons_self
theorem maxL_le : ∀ {l : List Int} {z : Int}, z ∈ l → z ≤ maxL l
  | [], _, h => by simp at h
  | [x], z, h => by simp [maxL] at h ⊢; omega
  | x :: y :: r, z, h => by
    simp only [maxL]
    rcases List.mem_cons.mp h with rfl | h
    · split <;> omega
    · have ih := maxL_le (l := y :: r) h
      split <;> omega
theorem minL_mem : ∀ {l : List Int}, 0 < l.length → minL l ∈ l
  | [], h => by simp at h
  | [x], _ => by simp [minL]
  | x :: y :: r, _ => by
    have ih := minL_mem (l := y :: r) (by simp)
    simp only [minL]
    split
    · exact List.mem_cons_of_mem _ ih
    · exact List.mem_cons_self
theorem minL_le : ∀ {l : List Int} {z : Int}, z ∈ l → minL l ≤ z
  | [], _, h => by simp at h
  | [x], z, h => by simp [minL] at h ⊢; omega
  | x :: y :: r, z, h => by
    simp only [minL]
    rcases List.mem_cons.mp h with rfl | h
    · split <;> omega
    · have ih := minL_le (l := y :: r) h
      split <;> omega
def maxD : List D → Option D
  | [.lst ds] => match intsOf ds with
    | some (n :: r) => some (.int (maxL (n :: r)))
    | _ => none
  | _ => none
def minD : List D → Option D
  | [.lst ds] => match intsOf ds with
    | some (n :: r) => some (.int (minL (n :: r)))
    | _ => none
  | _ => none
theorem cb_max {K : PySem.W.Frag} : Cb K (rMax K) maxD := by
  refine ⟨fun T F σ G H δ vs ds d s rv e Q q => ?_⟩
  unfold maxD at e
  split at e
  · split at e
    · rename_i n r hi
      cases e
      cases rv with
      | cons h t =>
        cases t
        cases h with
        | lst h1 h2 =>
          rw [intsOf_some hi] at h2
          have ev := h2.ints'
          subst ev
          refine ⟨_, n :: r, rfl, .of (s.sub _ _ h1), by simp, fun m hm hle => ?_⟩
          have : m = maxL (n :: r) := Int.le_antisymm (maxL_le hm) (hle _ (maxL_mem (by simp)))
          rw [this]
          exact q G H _ s (Same.refl _) (.int _)
    · cases e
  · cases e
theorem cb_min {K : PySem.W.Frag} : Cb K (rMin K) minD := by
  refine ⟨fun T F σ G H δ vs ds d s rv e Q q => ?_⟩
  unfold minD at e
  split at e
  · split at e
    · rename_i n r hi
      cases e
      cases rv with
      | cons h t =>
        cases t
        cases h with
        | lst h1 h2 =>
          rw [intsOf_some hi] at h2
          have ev := h2.ints'
          subst ev
          refine ⟨_, n :: r, rfl, .of (s.sub _ _ h1), by simp, fun m hm hle => ?_⟩
          have : m = minL (n :: r) := Int.le_antisymm (hle _ (minL_mem (by simp))) (minL_le hm)
          rw [this]
          exact q G H _ s (Same.refl _) (.int _)
    · cases e
  · cases e
theorem fe_max {p pos : Pos} {e : Expr} {f : M (List D)} (hm : c.mg "max" = none) (ha : FA c [e] f) (hg : Gb c "max" := by rfl) (he : ∀ env : Env, starEach [e] env = (false, eval e env) :: starEach [] env := by intro _; rfl) :
    FE c (.Call (.Name "max" p) [e] [] pos) (callB maxD f) :=
  fe_callB hm (fun X h => by have := cr_max (X := X) h.calm; rwa [h.K] at this) cb_max ha (by first | exact PyProof.Rows.boot_max | decide +kernel) hg (he := he)
theorem fe_min {p pos : Pos} {e : Expr} {f : M (List D)} (hm : c.mg "min" = none) (ha : FA c [e] f) (hg : Gb c "min" := by rfl) (he : ∀ env : Env, starEach [e] env = (false, eval e env) :: starEach [] env := by intro _; rfl) :
    FE c (.Call (.Name "min" p) [e] [] pos) (callB minD f) :=
  fe_callB hm (fun X h => by have := cr_min (X := X) h.calm; rwa [h.K] at this) cb_min ha (by first | exact PyProof.Rows.boot_min | decide +kernel) hg (he := he)
def sumD : List D → Option D
  | [.lst ds] => (intsOf ds).map fun ns => .int ns.sum
  | _ => none
theorem cb_sum {K : PySem.W.Frag} : Cb K (rSum K) sumD := by
  refine ⟨fun T F σ G H δ vs ds d s rv e Q q => ?_⟩
  unfold sumD at e
  split at e
  · rename_i ds
    cases hi : intsOf ds with
    | none => rw [hi] at e; cases e
    | some ns =>
      rw [hi] at e
      cases e
      cases rv with
      | cons h t =>
        cases t
        cases h with
        | lst h1 h2 =>
          rw [intsOf_some hi] at h2
          have ev := h2.ints'
          subst ev
          exact ⟨_, ns, rfl, .of (s.sub _ _ h1), q G H _ s (Same.refl _) (.int _)⟩
  · cases e
theorem fe_sum {p pos : Pos} {e : Expr} {f : M (List D)} (hm : c.mg "sum" = none) (ha : FA c [e] f) (hg : Gb c "sum" := by rfl) (he : ∀ env : Env, starEach [e] env = (false, eval e env) :: starEach [] env := by intro _; rfl) :
    FE c (.Call (.Name "sum" p) [e] [] pos) (callB sumD f) :=
  fe_callB hm (fun X h => by have := cr_sum (X := X) h.calm; rwa [h.K] at this) cb_sum ha (by decide +kernel) hg (he := he)
def lenD : List D → Option D
  | [.lst ds] => some (.int ds.length)
  | [.tup ds] => some (.int ds.length)
  | [.str z] => if z.length ≤ sizeLine then some (.int z.length) else none
  | _ => none
theorem cb_len {K : PySem.W.Frag} : Cb K (fun xs H Q => (∃ p ys, xs = [V.ref p] ∧ (SqL K H p ys ∨ SqT K H p ys) ∧ Q (.int ys.length) H) ∨ (∃ z, xs = [V.str z] ∧ z.length ≤ sizeLine ∧ Q (.int z.length) H)) lenD := by
  refine ⟨fun T F σ G H δ vs ds d s rv e Q q => ?_⟩
  unfold lenD at e
  split at e
  · cases e
    cases rv with
    | cons h t =>
      cases t
      cases h with
      | lst h1 h2 => exact .inl ⟨_, _, rfl, .inl (.of (s.sub _ _ h1)), by rw [h2.length]; exact q G H _ s (Same.refl _) (.int _)⟩
  · cases e
    cases rv with
    | cons h t =>
      cases t
      cases h with
      | tup h1 h2 => exact .inl ⟨_, _, rfl, .inr (seqT s.sub h1), by rw [h2.length]; exact q G H _ s (Same.refl _) (.int _)⟩
  · split at e
    · rename_i z hz
      cases e
      cases rv with
      | cons h t =>
        cases t
        cases h
        exact .inr ⟨z, rfl, hz, q G H _ s (Same.refl _) (.int _)⟩
    · cases e
  · cases e
theorem fe_len {p pos : Pos} {e : Expr} {f : M (List D)} (hm : c.mg "len" = none) (ha : FA c [e] f) (hg : Gb c "len" := by rfl) (he : ∀ env : Env, starEach [e] env = (false, eval e env) :: starEach [] env := by intro _; rfl) :
    FE c (.Call (.Name "len" p) [e] [] pos) (callB lenD f) :=
  fe_callB hm (fun X h => by have := (call_len_seq (X := X)).or call_len_str; rwa [h.K] at this) cb_len ha PySem.boot_len hg (he := he)
def listD : List D → Option D
  | [.lst ds] => some (.lst ds)
  | [.tup ds] => some (.lst ds)
  | _ => none
theorem cb_list {K : PySem.W.Frag} : Cb K (fun xs H Q => ∃ p ys, xs = [V.ref p] ∧ (SqL K H p ys ∨ SqT K H p ys) ∧ ∀ l, H l = none → Q (.ref l) (upd H l (.lst ys))) listD := by
  refine ⟨fun T F σ G H δ vs ds d s rv e Q q => ?_⟩
  unfold listD at e
  split at e
  · cases e
    cases rv with
    | cons h t =>
      cases t
      cases h with
      | lst h1 h2 => exact ⟨_, _, rfl, .inl (.of (s.sub _ _ h1)), fun l hl => q _ _ _ (s.new hl) (same_upd (s.sub.free hl)) (.lst upd_same (h2.mono (same_upd (s.sub.free hl))))⟩
  · cases e
    cases rv with
    | cons h t =>
      cases t
      cases h with
      | tup h1 h2 => exact ⟨_, _, rfl, .inr (seqT s.sub h1), fun l hl => q _ _ _ (s.new hl) (same_upd (s.sub.free hl)) (.lst upd_same (h2.mono (same_upd (s.sub.free hl))))⟩
  · cases e
theorem fe_list {p pos : Pos} {e : Expr} {f : M (List D)} (hm : c.mg "list" = none) (ha : FA c [e] f) (hg : Gb c "list" := by rfl) (he : ∀ env : Env, starEach [e] env = (false, eval e env) :: starEach [] env := by intro _; rfl) :
    FE c (.Call (.Name "list" p) [e] [] pos) (callB listD f) :=
  fe_callTy hm (fun X h => by have := call_list_of (X := X); rwa [h.K] at this) cb_list ha (by decide +kernel) hg (he := he)
def tupleD : List D → Option D
  | [.lst ds] => some (.tup ds)
  | [.tup ds] => some (.tup ds)
  | _ => none
theorem cb_tuple {K : PySem.W.Frag} : Cb K (fun xs H Q => ∃ p ys, xs = [V.ref p] ∧ ((SqL K H p ys ∧ ∀ l, H l = none → Q (.ref l) (upd H l (.tup ys))) ∨ (SqT K H p ys ∧ Q (.ref p) H))) tupleD := by
  refine ⟨fun T F σ G H δ vs ds d s rv e Q q => ?_⟩
  unfold tupleD at e
  split at e
  · cases e
    cases rv with
    | cons h t =>
      cases t
      cases h with
      | lst h1 h2 => exact ⟨_, _, rfl, .inl ⟨.of (s.sub _ _ h1), fun l hl => q _ _ _ (s.new hl) (same_upd (s.sub.free hl)) (.tup (.of upd_same) (h2.mono (same_upd (s.sub.free hl))))⟩⟩
  · cases e
    cases rv with
    | cons h t =>
      cases t
      cases h with
      | tup h1 h2 => exact ⟨_, _, rfl, .inr ⟨seqT s.sub h1, q G H _ s (Same.refl _) (.tup h1 h2)⟩⟩
  · cases e
theorem fe_tuple {p pos : Pos} {e : Expr} {f : M (List D)} (hm : c.mg "tuple" = none) (ha : FA c [e] f) (hg : Gb c "tuple" := by rfl) (he : ∀ env : Env, starEach [e] env = (false, eval e env) :: starEach [] env := by intro _; rfl) :
    FE c (.Call (.Name "tuple" p) [e] [] pos) (callB tupleD f) :=
  fe_callTy hm (fun X h => by have := call_tuple_of (X := X); rwa [h.K] at this) cb_tuple ha (by decide +kernel) hg (he := he)
def intD : List D → Option D
  | [.int i] => some (.int i)
  | [.bl b] => some (.int (if b then 1 else 0))
  | _ => none
theorem cb_int {K : PySem.W.Frag} : Cb K (fun xs H Q => (∃ i, xs = [V.int i] ∧ Q (.int i) H) ∨ ∃ k, xs = [V.bl k] ∧ Q (.int (if k then 1 else 0)) H) intD := by
  refine ⟨fun T F σ G H δ vs ds d s rv e Q q => ?_⟩
  unfold intD at e
  split at e
  · cases e
    cases rv with
    | cons h t =>
      cases t
      cases h
      exact .inl ⟨_, rfl, q G H _ s (Same.refl _) (.int _)⟩
  · cases e
    cases rv with
    | cons h t =>
      cases t
      cases h
      exact .inr ⟨_, rfl, q G H _ s (Same.refl _) (.int _)⟩
  · cases e
theorem fe_int1 {p pos : Pos} {e : Expr} {f : M (List D)} (hm : c.mg "int" = none) (ha : FA c [e] f) (hg : Gb c "int" := by rfl) (he : ∀ env : Env, starEach [e] env = (false, eval e env) :: starEach [] env := by intro _; rfl) :
    FE c (.Call (.Name "int" p) [e] [] pos) (callB intD f) :=
  fe_callTy hm (fun X h => call_int1) cb_int ha PyProof.Rows.boot_int hg (he := he)

/-! ### defs of one's own -/
/-- what a def gives for data: none: not told; ret: hands back; ex: raises the c-th class -/
inductive Res where
  | ret (d : D) | ex (c : Nat)
abbrev DF := List D → Option Res
/-- the promise of a def that changes nothing that stood -/
def spD (K : PySem.W.Frag) (cl : Nat → Addr) (f : DF) : Sp := fun vs H Q E => ∃ (F G : Hp) (ds : List D) (r : Res), Same G H ∧ Same F H ∧ (∀ b o, F b = some o → G b = none) ∧ (∀ b ps, G b ≠ some (.tbl ps)) ∧ RepL K G vs ds ∧ f ds = some r ∧
  match r with
  | .ret d => ∀ G' H' v, Same G G' → Same G' H' → Same F H' → (∀ b o, F b = some o → G' b = none) → (∀ b ps, G' b ≠ some (.tbl ps)) → Rep K G' v d → Q v H'
  | .ex k => ∀ G' H', Same G G' → Same G' H' → Same F H' → E (.ref (cl k)) none H'
structure FnD (P : Program) (w : World) (K : PySem.W.Frag) (mg : Str → Option Value) (base : Heap) (cl : Nat → Addr) (k : Nat) (x : Str) (f : DF) : Prop where
  ex : ∃ (a : Addr) (fd : FuncData) (ps : List Str), mg x = some (.ref a) ∧ PySem.W.keepIn K (.ref a) = true ∧ Binds K fd ps [] ∧ FnOk P w K mg base (L2.CX P w) k a fd ps (spD K cl f)
theorem FnD.mono {P : Program} {w : World} {K : PySem.W.Frag} {mg : Str → Option Value} {base : Heap} {cl : Nat → Addr} {j k : Nat} {x : Str} {f : DF} (h : FnD P w K mg base cl j x f) (hj : j ≤ k) : FnD P w K mg base cl k x f := by
  obtain ⟨a, fd, ps, h1, h2, h3, h4⟩ := h.ex
  exact ⟨a, fd, ps, h1, h2, h3, h4.mono hj⟩
/-- callers' frozen heap of a state: all of H that is not G and not one of its own lists -/
def resM (r : Option Res) : M D := fun δ => match r with
  | none => none
  | some (.ret d) => some (.ok d δ)
  | some (.ex k) => some (.ex k)
def callM (f : DF) (fa : M (List D)) : M D := bindM fa fun ds => resM (f ds)
/-- all that H holds beside G -/
def besides (G H : Hp) : Hp := fun b => match G b with
  | some _ => none
  | none => H b
theorem S.after {K : PySem.W.Frag} {T : List (Addr × PySem.Str)} {F G H G' H' : Hp} {σ : L2.St} {δ : De} (s : S (K, T) F σ G H δ) (g : Same G G') (h : Same G' H') (f : Same (besides G H) H') (d : ∀ b o, besides G H b = some o → G' b = none) (n : ∀ b ps, G' b ≠ some (.tbl ps)) : S (K, T) F σ G' H' δ := by
  have bs : ∀ b o, H b = some o → G b = none → besides G H b = some o := fun b o e n => by unfold besides; rw [n]; exact e
  refine ⟨h, fun b o e => f _ _ (bs _ _ (s.frm _ _ e) (s.dis _ _ e)), fun b o e => d _ _ (bs _ _ (s.frm _ _ e) (s.dis _ _ e)), s.len, fun i d' e => ?_, fun i xs e => ?_, s.inj, ?_, fun x hx => ?_, n, s.ntf⟩
  · obtain ⟨v, h1, h2⟩ := s.val i d' e
    exact ⟨v, h1, h2.mono g⟩
  · obtain ⟨p, vs, h1, h2, h3, h4, h5⟩ := s.own i xs e
    exact ⟨p, vs, h1, f _ _ (bs _ _ h2 h4), h3.mono g, d _ _ (bs _ _ h2 h4), h5⟩
  · intro x hx
    have all : ∀ b o, H b = some o → H' b = some o := fun b o e => by
      cases hg : G b with
      | none => exact f _ _ (bs _ _ e hg)
      | some o' =>
        have := s.sub _ _ hg
        rw [e] at this
        cases this
        exact h _ _ (g _ _ hg)
    exact (s.tab x hx).ext all
  · obtain ⟨ps, hp⟩ := s.tab_at hx
    exact ⟨(s.tnf x hx).1, d _ _ (bs _ _ hp (s.tnf x hx).2)⟩
theorem fe_call {k : Nat} {x : Str} {f : DF} {p pos : Pos} {e : Expr} {es : List Expr} {fa : M (List D)} (F : FnD c.P c.w c.K c.mg c.base c.cl k x f) (ha : FA c (e :: es) fa) (hk : Nat.ble k c.k = true := by rfl)
    (hg : Gb c x := by rfl)
    (hdb : (x == ("__debug__" : Str)) = false := by decide) (he : ∀ env : Env, starEach (e :: es) env = (false, eval e env) :: starEach es env := by intro _; rfl) (hpl : ∀ env : Env, (backTo pos (starEach es env)).any (·.1) = false := by intro _; rfl) :
    FE c (.Call (.Name x p) (e :: es) [] pos) (callM f fa) := by
  obtain ⟨t, pa, sa⟩ := ha.ex
  obtain ⟨a, fd, ps, h1, h2, h3, h4⟩ := F.ex
  refine ⟨tCallS (spD c.K c.cl f) (WE fun cls d _ H => c.E cls d H) t, fun X h => ?_, ?_⟩
  · have h4' : FnOk X.prog X.w X.K X.mg X.base (L2.CX X.prog X.w) k a fd ps (spD c.K c.cl f) := by rw [h.P, h.w, h.K, h.mg, h.base]; exact h4
    exact pe_callS h4' (h.room.mono (Nat.le_of_ble_eq_true hk)) (show X.env.scope.names.lookup x = _ by rw [h.sc]; exact hg) (by rw [h.mg]; exact h1) (by rw [h.K]; exact h2) (by rw [h.K]; exact h3) (fun σ => passAt h.tk σ) (pa X h) hdb (he _) (hpl _)
  · intro F σ G H δ r s e Q p
    refine sa.step s e p fun G1 H1 δ1 vs ds s1 g1 rx e1 p1 => ?_
    unfold resM at e1
    cases h : f ds with
    | none => rw [h] at e1; cases e1
    | some rr =>
      rw [h] at e1
      have bs : ∀ b o, besides G1 H1 b = some o → G1 b = none ∧ H1 b = some o := fun b o e => by
        unfold besides at e
        split at e
        · cases e
        · rename_i q; exact ⟨q, e⟩
      refine ⟨besides G1 H1, G1, ds, rr, s1.sub, fun b o e => (bs b o e).2, fun b o e => (bs b o e).1, s1.ntg, rx, h, ?_⟩
      cases rr with
      | ret d =>
        cases e1
        exact fun G' H' v g' h' f' d' n' rv => p1 G' H' v (s1.after g' h' f' d' n') g' rv
      | ex k =>
        cases e1
        exact fun G' H' g' h' f' => p1 G' H' g' h' fun b o e => f' _ _ (by unfold besides; rw [s1.dis _ _ e]; exact s1.frm _ _ e)
end
end FL

set_option Elab.async false
set_option linter.all false
set_option maxRecDepth 100000
set_option maxHeartbeats 2000000
/-! FL4: what is walked, targets, statements, defs. -/
namespace FL
open PySem PySem.Spec PyProof.Rows L2
/-! ### what is walked -/
structure Walks (K : PySem.W.Frag) (G' : Hp) (J : It) (ds : List D) : Prop where
  go : ∀ T F σ G H δ i, Same G' G → S (K, T) F σ G H δ → i < ds.length → J.go i H
  yld : ∀ T F σ G H δ i x H3 d, Same G' G → S (K, T) F σ G H δ → J.yld i H x H3 → ds[i]? = some d → ∃ G3, S (K, T) F σ G3 H3 δ ∧ Same G G3 ∧ Rep K G3 x d
  stop : ∀ T F σ G H δ i, Same G' G → S (K, T) F σ G H δ → ds.length ≤ i → J.stop i H
structure FI (c : SC) (tg iter : Expr) (f : M (List D)) : Prop where
  ex : ∃ wi, (∀ X, In c X → PI X tg iter wi) ∧ Sp2 c.κ c.cl c.E (Walks c.K) wi f
theorem pi_or {X : Cx} {tg it : Expr} {w w' : TI} (h : PI X tg it w) (h' : PI X tg it w') : PI X tg it (fun σ H R => w σ H R ∨ w' σ H R) :=
  ⟨fun pins s σ H R I q => q.elim (h.run pins s σ H R I) (h'.run pins s σ H R I)⟩
def seqOf : D → Option (List D)
  | .lst ds => some ds
  | .tup ds => some ds
  | _ => none
section
variable {c : SC}
theorem walks_l {K : PySem.W.Frag} {G : Hp} {a : Addr} {xs : List V} {ds : List D} (h : G a = some (.lst xs)) (r : RepL K G xs ds) : Walks K G (Itl K a) ds where
  go := fun T F σ G1 H δ i g s hi => by
    obtain ⟨d, hd⟩ : ∃ d, ds[i]? = some d := ⟨_, List.getElem?_eq_getElem hi⟩
    obtain ⟨v, h1, h2⟩ := r.get hd
    exact ⟨xs, v, .of (s.sub _ _ (g _ _ h)), h1⟩
  yld := fun T F σ G1 H δ i x H3 d g s hy hd => by
    obtain ⟨rfl, q⟩ := hy
    obtain ⟨v, h1, h2⟩ := r.get hd
    have := q xs (.of (s.sub _ _ (g _ _ h)))
    rw [h1] at this
    cases this
    exact ⟨G1, s, Same.refl _, h2.mono g⟩
  stop := fun T F σ G1 H δ i g s hi => ⟨xs, .of (s.sub _ _ (g _ _ h)), by rw [r.length]; exact hi⟩
theorem walks_t {K : PySem.W.Frag} {G : Hp} {a : Addr} {xs : List V} {ds : List D} (h : SqT K G a xs) (r : RepL K G xs ds) : Walks K G (Itt K a) ds where
  go := fun T F σ G1 H δ i g s hi => by
    obtain ⟨d, hd⟩ : ∃ d, ds[i]? = some d := ⟨_, List.getElem?_eq_getElem hi⟩
    obtain ⟨v, h1, h2⟩ := r.get hd
    exact ⟨xs, v, seqT (g.trans s.sub) h, h1⟩
  yld := fun T F σ G1 H δ i x H3 d g s hy hd => by
    obtain ⟨rfl, q⟩ := hy
    obtain ⟨v, h1, h2⟩ := r.get hd
    have := q xs (seqT (g.trans s.sub) h)
    rw [h1] at this
    cases this
    exact ⟨G1, s, Same.refl _, h2.mono g⟩
  stop := fun T F σ G1 H δ i g s hi => ⟨xs, seqT (g.trans s.sub) h, by rw [r.length]; exact hi⟩
def seqM (f : M D) : M (List D) := bindM f fun d => liftO (seqOf d)
theorem fi_seq {tg e : Expr} {f : M D} (h : FE c e f) : FI c tg e (seqM f) := by
  obtain ⟨t, pa, sa⟩ := h.ex
  refine ⟨fun σ H R => iList c.K t σ H R ∨ iTup c.K t σ H R, fun X h => by have := pi_or (tg := tg) (pi_list (pa X h)) (pi_tup (pa X h)); rwa [h.K] at this, fun F σ G H δ r s e Q p => ?_⟩
  -- which of the two: by the value
  unfold seqM bindM at e
  cases hf : f δ with
  | none => rw [hf] at e; cases e
  | some ra =>
    rw [hf] at e
    cases ra with
    | ex k => cases e; exact .inl (sa F σ G H δ _ s hf _ p)
    | ok d δ' =>
      obtain ⟨ds, hd, rfl⟩ := liftO_eq e
      cases d <;> simp only [seqOf, Option.some.injEq, reduceCtorEq] at hd
      · subst hd
        refine .inl (sa F σ G H δ _ s hf _ fun G1 H1 v s1 g1 rv => ?_)
        cases rv with
        | lst h1 h2 => exact ⟨_, rfl, ⟨_, .of (s1.sub _ _ h1)⟩, p G1 H1 _ s1 g1 (walks_l h1 h2)⟩
      · subst hd
        refine .inr (sa F σ G H δ _ s hf _ fun G1 H1 v s1 g1 rv => ?_)
        cases rv with
        | tup h1 h2 => exact ⟨_, rfl, ⟨_, seqT s1.sub h1⟩, p G1 H1 _ s1 g1 (walks_t h1 h2)⟩
/-- lo, lo + 1, .. -/
def rangeL (lo : Int) (n : Nat) : List D := (List.range n).map fun (k : Nat) => D.int (lo + k)
theorem rangeL_len (lo : Int) (n : Nat) : (rangeL lo n).length = n := by simp [rangeL]
theorem walks_r {K : PySem.W.Frag} {G : Hp} {lo : Int} {n : Nat} : Walks K G (Itr lo n) (rangeL lo n) where
  go := fun T F σ G1 H δ i g s hi => by rw [rangeL_len] at hi; exact hi
  yld := fun T F σ G1 H δ i x H3 d g s hy hd => by
    obtain ⟨rfl, rfl⟩ := hy
    unfold rangeL at hd
    rw [List.getElem?_map] at hd
    cases h : (List.range n)[i]? with
    | none => rw [h] at hd; cases hd
    | some k =>
      rw [h] at hd
      cases hd
      have : k = i := by
        have := List.getElem?_eq_some_iff.mp h
        obtain ⟨h1, h2⟩ := this
        rw [List.getElem_range] at h2
        exact h2.symm
      subst this
      exact ⟨G1, s, Same.refl _, .int _⟩
  stop := fun T F σ G1 H δ i g s hi => by rw [rangeL_len] at hi; exact hi
def inR (j : Int) : Prop := -(2 ^ 62) ≤ j ∧ j < 2 ^ 62
instance (j : Int) : Decidable (inR j) := by unfold inR; infer_instance
def rng1 : List D → Option (List D)
  | [.int j] => if inR j then some (rangeL 0 j.toNat) else none
  | _ => none
def rng2 : List D → Option (List D)
  | [.int i, .int j] => if inR i ∧ inR j then some (rangeL i (j - i).toNat) else none
  | _ => none
def itM (g : List D → Option (List D)) (f : M (List D)) : M (List D) := bindM f fun ds => liftO (g ds)
theorem fi_range1 {tg a : Expr} {f : M (List D)} {p pos : Pos} (hm : c.mg "range" = none) (ha : FA c [a] f) (hg : Gb c "range" := by rfl) (hs : ∀ env : Env, starEach [a] env = [(false, eval a env)] := by intro _; rfl) : FI c tg (.Call (.Name "range" p) [a] [] pos) (itM rng1 f) := by
  obtain ⟨t, pa, sa⟩ := ha.ex
  refine ⟨_, fun X h => pi_range1 (show X.env.scope.names.lookup _ = _ by rw [h.sc]; exact hg) (by rw [h.mg]; exact hm) (pa X h) (hs _), fun F σ G H δ r s e Q p => ?_⟩
  refine sa.step s e p fun G1 H1 δ1 x ds s1 g1 rx e1 p1 => ?_
  obtain ⟨d, hd, rfl⟩ := liftO_eq e1
  unfold rng1 at hd
  split at hd
  · split at hd
    · rename_i j hj
      cases hd
      cases rx with
      | cons h t =>
        cases t
        cases h
        exact ⟨j, rfl, hj.1, hj.2, p1 G1 H1 _ s1 (Same.refl _) walks_r⟩
    · cases hd
  · cases hd
theorem fi_range2 {tg a b : Expr} {f : M (List D)} {p pos : Pos} (hm : c.mg "range" = none) (ha : FA c [a, b] f) (hg : Gb c "range" := by rfl) (hs : ∀ env : Env, starEach [a, b] env = [(false, eval a env), (false, eval b env)] := by intro _; rfl) (hs2 : ∀ env : Env, starEach [b] env = [(false, eval b env)] := by intro _; rfl) :
    FI c tg (.Call (.Name "range" p) [a, b] [] pos) (itM rng2 f) := by
  obtain ⟨t, pa, sa⟩ := ha.ex
  refine ⟨_, fun X h => pi_range2 (show X.env.scope.names.lookup _ = _ by rw [h.sc]; exact hg) (by rw [h.mg]; exact hm) (pa X h) (hs _) (hs2 _), fun F σ G H δ r s e Q p => ?_⟩
  refine sa.step s e p fun G1 H1 δ1 x ds s1 g1 rx e1 p1 => ?_
  obtain ⟨d, hd, rfl⟩ := liftO_eq e1
  unfold rng2 at hd
  split at hd
  · split at hd
    · rename_i i j hj
      cases hd
      cases rx with
      | cons h t =>
        cases t with
        | cons h' t =>
          cases t
          cases h
          cases h'
          exact ⟨i, j, rfl, ⟨hj.1.1, hj.1.2, hj.2.1, hj.2.2⟩, p1 G1 H1 _ s1 (Same.refl _) walks_r⟩
    · cases hd
  · cases hd
/-- zip of two lists, of two tuples -/
def zipL : List D → List D → List D
  | x :: xs, y :: ys => .tup [x, y] :: zipL xs ys
  | _, _ => []
theorem zipL_get : ∀ {xs ys : List D} {i : Nat} {d : D}, (zipL xs ys)[i]? = some d → ∃ x y, xs[i]? = some x ∧ ys[i]? = some y ∧ d = .tup [x, y]
  | [], ys, i, d, h => by simp [zipL] at h
  | x :: xs, [], i, d, h => by simp [zipL] at h
  | x :: xs, y :: ys, 0, d, h => by simp [zipL] at h; exact ⟨x, y, rfl, rfl, h.symm⟩
  | x :: xs, y :: ys, i + 1, d, h => by
    have h' : (zipL xs ys)[i]? = some d := h
    obtain ⟨a, b, h1, h2, h3⟩ := zipL_get h'
    exact ⟨a, b, h1, h2, h3⟩
theorem zipL_len : ∀ {xs ys : List D}, (zipL xs ys).length = min xs.length ys.length
  | [], ys => by simp [zipL]
  | x :: xs, [] => by simp [zipL]
  | x :: xs, y :: ys => by simp only [zipL, List.length_cons, zipL_len (xs := xs) (ys := ys)]; omega
theorem two_line : 2 ≤ sizeLine := by decide
theorem walks_zl {K : PySem.W.Frag} {G : Hp} {a b : Addr} {xs ys : List V} {ds es : List D} (h : G a = some (.lst xs)) (r : RepL K G xs ds) (h' : G b = some (.lst ys)) (r' : RepL K G ys es) : Walks K G (Itz K a b) (zipL ds es) where
  go := fun T F σ G1 H δ i g s hi => by
    rw [zipL_len] at hi
    obtain ⟨d, hd⟩ : ∃ d, ds[i]? = some d := ⟨_, List.getElem?_eq_getElem (by omega)⟩
    obtain ⟨e, he⟩ : ∃ d, es[i]? = some d := ⟨_, List.getElem?_eq_getElem (by omega)⟩
    obtain ⟨v, h1, h2⟩ := r.get hd
    obtain ⟨w, h3, h4⟩ := r'.get he
    exact ⟨xs, ys, v, w, .of (s.sub _ _ (g _ _ h)), .of (s.sub _ _ (g _ _ h')), h1, h3⟩
  yld := fun T F σ G1 H δ i x H3 d g s hy hd => by
    obtain ⟨x1, y1, e1, e2, rfl⟩ := zipL_get hd
    obtain ⟨T, v1, v2, rfl, hT, rfl, q1, q2⟩ := hy
    obtain ⟨v, h1, h2⟩ := r.get e1
    obtain ⟨w, h3, h4⟩ := r'.get e2
    have z1 := q1 xs (.of (s.sub _ _ (g _ _ h)))
    have z2 := q2 ys (.of (s.sub _ _ (g _ _ h')))
    rw [h1] at z1
    rw [h3] at z2
    cases z1
    cases z2
    have gp := s.sub.free hT
    exact ⟨_, s.new hT, same_upd gp, .tup (.of upd_same) (.cons (h2.mono (g.trans (same_upd gp))) (.cons (h4.mono (g.trans (same_upd gp))) .nil))⟩
  stop := fun T F σ G1 H δ i g s hi => by
    rw [zipL_len] at hi
    refine ⟨xs, ys, .of (s.sub _ _ (g _ _ h)), .of (s.sub _ _ (g _ _ h')), ?_⟩
    rw [r.length, r'.length]
    omega
theorem walks_zt {K : PySem.W.Frag} {G : Hp} {a b : Addr} {xs ys : List V} {ds es : List D} (h : SqT K G a xs) (r : RepL K G xs ds) (h' : SqT K G b ys) (r' : RepL K G ys es) : Walks K G (RZ.ItzT K a b) (zipL ds es) where
  go := fun T F σ G1 H δ i g s hi => by
    rw [zipL_len] at hi
    obtain ⟨d, hd⟩ : ∃ d, ds[i]? = some d := ⟨_, List.getElem?_eq_getElem (by omega)⟩
    obtain ⟨e, he⟩ : ∃ d, es[i]? = some d := ⟨_, List.getElem?_eq_getElem (by omega)⟩
    obtain ⟨v, h1, h2⟩ := r.get hd
    obtain ⟨w, h3, h4⟩ := r'.get he
    exact ⟨xs, ys, v, w, seqT (g.trans s.sub) h, seqT (g.trans s.sub) h', h1, h3⟩
  yld := fun T F σ G1 H δ i x H3 d g s hy hd => by
    obtain ⟨x1, y1, e1, e2, rfl⟩ := zipL_get hd
    obtain ⟨T, v1, v2, rfl, hT, rfl, q1, q2⟩ := hy
    obtain ⟨v, h1, h2⟩ := r.get e1
    obtain ⟨w, h3, h4⟩ := r'.get e2
    have z1 := q1 xs (seqT (g.trans s.sub) h)
    have z2 := q2 ys (seqT (g.trans s.sub) h')
    rw [h1] at z1
    rw [h3] at z2
    cases z1
    cases z2
    have gp := s.sub.free hT
    exact ⟨_, s.new hT, same_upd gp, .tup (.of upd_same) (.cons (h2.mono (g.trans (same_upd gp))) (.cons (h4.mono (g.trans (same_upd gp))) .nil))⟩
  stop := fun T F σ G1 H δ i g s hi => by
    rw [zipL_len] at hi
    refine ⟨xs, ys, seqT (g.trans s.sub) h, seqT (g.trans s.sub) h', ?_⟩
    rw [r.length, r'.length]
    omega
def zipD : List D → Option (List D)
  | [.lst xs, .lst ys] => some (zipL xs ys)
  | [.tup xs, .tup ys] => some (zipL xs ys)
  | _ => none
theorem fi_zip {a b : Expr} {f : M (List D)} {p pos tpos : Pos} {elts : List Expr} {kk : Nat} (hm : c.mg "zip" = none) (ha : FA c [a, b] f) (hg : Gb c "zip" := by rfl)
    (hs : ∀ env : Env, starEach [a, b] env = (false, eval a env) :: starEach [b] env := by intro _; rfl) (hpl : ∀ env : Env, (backTo pos (starEach [b] env)).any (·.1) = false := by intro _; rfl) :
    FI c (.Tuple elts kk tpos) (.Call (.Name "zip" p) [a, b] [] pos) (itM zipD f) := by
  obtain ⟨t, pa, sa⟩ := ha.ex
  refine ⟨RZ.iZipA c.K t, fun X h => by have := RZ.pi_zipA (elts := elts) (kk := kk) (tpos := tpos) (p := p) (pos := pos) (show X.env.scope.names.lookup _ = _ by rw [h.sc]; exact hg) (by rw [h.mg]; exact hm) (pa X h) (hs _) (hpl _); rwa [h.K] at this, fun F σ G H δ r s e Q p => ?_⟩
  refine sa.step s e p fun G1 H1 δ1 x ds s1 g1 rx e1 p1 => ?_
  obtain ⟨d, hd, rfl⟩ := liftO_eq e1
  unfold zipD at hd
  split at hd
  · cases hd
    cases rx with
    | cons h t =>
      cases t with
      | cons h' t =>
        cases t
        cases h with
        | lst a1 b1 =>
          cases h' with
          | lst a2 b2 => exact ⟨_, _, _, _, rfl, .inl ⟨.of (s1.sub _ _ a1), .of (s1.sub _ _ a2), p1 G1 H1 _ s1 (Same.refl _) (walks_zl a1 b1 a2 b2)⟩⟩
  · cases hd
    cases rx with
    | cons h t =>
      cases t with
      | cons h' t =>
        cases t
        cases h with
        | tup a1 b1 =>
          cases h' with
          | tup a2 b2 => exact ⟨_, _, _, _, rfl, .inr ⟨seqT s1.sub a1, seqT s1.sub a2, p1 G1 H1 _ s1 (Same.refl _) (walks_zt a1 b1 a2 b2)⟩⟩
  · cases hd
/-- enumerate of a list -/
def enumFrom (k : Nat) : List D → List D
  | [] => []
  | x :: xs => .tup [.int (k : Nat), x] :: enumFrom (k + 1) xs
theorem enumFrom_len : ∀ {k : Nat} {xs : List D}, (enumFrom k xs).length = xs.length
  | _, [] => rfl
  | k, x :: xs => by simp only [enumFrom, List.length_cons, enumFrom_len]
theorem enumFrom_get : ∀ {k : Nat} {xs : List D} {i : Nat} {d : D}, (enumFrom k xs)[i]? = some d → ∃ x, xs[i]? = some x ∧ d = .tup [.int ((k + i : Nat) : Int), x]
  | _, [], i, d, h => by simp [enumFrom] at h
  | k, x :: xs, 0, d, h => by simp [enumFrom] at h; exact ⟨x, rfl, h.symm⟩
  | k, x :: xs, i + 1, d, h => by
    have h' : (enumFrom (k + 1) xs)[i]? = some d := h
    obtain ⟨y, h1, h2⟩ := enumFrom_get h'
    exact ⟨y, h1, by rw [h2, show k + 1 + i = k + (i + 1) by omega]⟩
theorem walks_e {K : PySem.W.Frag} {G : Hp} {a : Addr} {xs : List V} {ds : List D} (h : G a = some (.lst xs)) (r : RepL K G xs ds) : Walks K G (Ite K a) (enumFrom 0 ds) where
  go := fun T F σ G1 H δ i g s hi => by
    rw [enumFrom_len] at hi
    obtain ⟨d, hd⟩ : ∃ d, ds[i]? = some d := ⟨_, List.getElem?_eq_getElem hi⟩
    obtain ⟨v, h1, h2⟩ := r.get hd
    exact ⟨xs, v, .of (s.sub _ _ (g _ _ h)), h1⟩
  yld := fun T F σ G1 H δ i x H3 d g s hy hd => by
    obtain ⟨x1, e1, rfl⟩ := enumFrom_get hd
    obtain ⟨T, v1, rfl, hT, rfl, q1⟩ := hy
    obtain ⟨v, h1, h2⟩ := r.get e1
    have z1 := q1 xs (.of (s.sub _ _ (g _ _ h)))
    rw [h1] at z1
    cases z1
    have gp := s.sub.free hT
    rw [show 0 + i = i by omega]
    exact ⟨_, s.new hT, same_upd gp, .tup (.of upd_same) (.cons (.int _) (.cons (h2.mono (g.trans (same_upd gp))) .nil))⟩
  stop := fun T F σ G1 H δ i g s hi => by
    rw [enumFrom_len] at hi
    exact ⟨xs, .of (s.sub _ _ (g _ _ h)), by rw [r.length]; exact hi⟩
def enumD : List D → Option (List D)
  | [.lst xs] => some (enumFrom 0 xs)
  | _ => none
theorem fi_enum {a : Expr} {f : M (List D)} {p pos tpos : Pos} {elts : List Expr} {kk : Nat} (hm : c.mg "enumerate" = none) (ha : FA c [a] f) (hg : Gb c "enumerate" := by rfl) (hs : ∀ env : Env, starEach [a] env = [(false, eval a env)] := by intro _; rfl) :
    FI c (.Tuple elts kk tpos) (.Call (.Name "enumerate" p) [a] [] pos) (itM enumD f) := by
  obtain ⟨t, pa, sa⟩ := ha.ex
  refine ⟨iEnum c.K t, fun X h => by have := pi_enum (elts := elts) (kk := kk) (tpos := tpos) (p := p) (pos := pos) (show X.env.scope.names.lookup _ = _ by rw [h.sc]; exact hg) (by rw [h.mg]; exact hm) (pa X h) (hs _); rwa [h.K] at this, fun F σ G H δ r s e Q p => ?_⟩
  refine sa.step s e p fun G1 H1 δ1 x ds s1 g1 rx e1 p1 => ?_
  obtain ⟨d, hd, rfl⟩ := liftO_eq e1
  unfold enumD at hd
  split at hd
  · cases hd
    cases rx with
    | cons h t =>
      cases t
      cases h with
      | lst a1 b1 => exact ⟨_, _, rfl, .of (s1.sub _ _ a1), p1 G1 H1 _ s1 (Same.refl _) (walks_e a1 b1)⟩
  · cases hd

/-! ### targets -/
def Agr (is : List Nat) (σ σ' : L2.St) : Prop := σ'.length = σ.length ∧ ∀ j, j ∉ is → σ'[j]? = σ[j]?
theorem Agr.refl (is : List Nat) (σ : L2.St) : Agr is σ σ := ⟨rfl, fun _ _ => rfl⟩
theorem Agr.trans {is : List Nat} {a b d : L2.St} (x : Agr is a b) (y : Agr is b d) : Agr is a d := ⟨y.1.trans x.1, fun j h => (y.2 j h).trans (x.2 j h)⟩
theorem Agr.mono {is js : List Nat} {a b : L2.St} (x : Agr is a b) (h : ∀ j ∈ is, j ∈ js) : Agr js a b := ⟨x.1, fun j hj => x.2 j fun z => hj (h j z)⟩
structure FG (c : SC) (tg : Expr) (is : List Nat) (bd : D → De → Option De) : Prop where
  ex : ∃ g, (∀ X, In c X → PG X tg g) ∧ ∀ F σ G H δ v d δ', S c.κ F σ G H δ → Rep c.K G v d → bd d δ = some δ' → ∀ Q, (∀ σ', S c.κ F σ' G H δ' → Agr is σ σ' → Q σ' H) → g v σ H Q
structure FGs (c : SC) (tgs : List Expr) (is : List Nat) (bd : List D → De → Option De) : Prop where
  ex : ∃ g, (∀ X, In c X → PGs X tgs g) ∧ ∀ F σ G H δ vs ds δ', S c.κ F σ G H δ → RepL c.K G vs ds → bd ds δ = some δ' → ∀ Q, (∀ σ', S c.κ F σ' G H δ' → Agr is σ σ' → Q σ' H) → g vs σ H Q
  len : ∀ ds δ δ', bd ds δ = some δ' → ds.length = tgs.length
def bName (i : Nat) : D → De → Option De := fun d δ => some (δ.set i (.val d))
theorem Agr.set (i : Nat) (σ : L2.St) (v : Option V) : Agr [i] σ (σ.set i v) := ⟨by simp, fun j h => by rw [List.getElem?_set_ne]; simpa using Ne.symm (by simpa using h)⟩
theorem fg_name (i : Nat) {x : Str} {pos : Pos} (nd : c.N.Nodup) (hi : c.N[i]? = some x := by rfl) (hx : Loc c.sc x := by first | exact Or.inl rfl | exact Or.inr rfl) (hst : c.st x = true := by rfl) : FG c (.Name x pos) [i] (bName i) := by
  refine ⟨gName i, fun X h => pg_name (by rw [h.N]; exact nd) (by rw [h.N]; exact hi) (by rw [h.sc]; exact hx) (h.fn x hst), fun F σ G H δ v d δ' s r e Q q => ?_⟩
  cases e
  exact q _ (s.store i r) (Agr.set i σ _)
def bNil : List D → De → Option De := fun ds δ => match ds with | [] => some δ | _ => none
def bCons (b : D → De → Option De) (r : List D → De → Option De) : List D → De → Option De := fun ds δ => match ds with
  | d :: ds => match b d δ with
    | some δ' => r ds δ'
    | none => none
  | [] => none
theorem fgs_nil : FGs c [] [] bNil := by
  refine ⟨⟨gNil, fun _ _ => pgs_nil, fun F σ G H δ vs ds δ' s r e Q q => ?_⟩, fun ds δ δ' h => ?_⟩
  · cases ds with
    | nil => cases e; cases r; exact ⟨rfl, q _ s (Agr.refl _ _)⟩
    | cons _ _ => cases e
  · cases ds with
    | nil => rfl
    | cons _ _ => cases h
theorem fgs_cons {e : Expr} {es : List Expr} {is js : List Nat} {b : D → De → Option De} {r : List D → De → Option De} (h1 : FG c e is b) (h2 : FGs c es js r)
    (hs : ∀ env : Env, (assignEach (e :: es) env).map (·.2) = assign e env :: (assignEach es env).map (·.2) := by intro _; rfl) : FGs c (e :: es) (is ++ js) (bCons b r) := by
  obtain ⟨g1, p1, s1⟩ := h1.ex
  obtain ⟨g2, p2, s2⟩ := h2.ex
  refine ⟨⟨_, fun X h => pgs_cons (p1 X h) (p2 X h) (hs _), fun F σ G H δ vs ds δ' s rr e Q q => ?_⟩, fun ds δ δ' h => ?_⟩
  · cases rr with
    | nil => cases e
    | cons hv ht =>
      rename_i v vs d ds
      unfold bCons at e
      dsimp only at e
      cases hb : b d δ with
      | none => rw [hb] at e; cases e
      | some δ1 =>
        rw [hb] at e
        exact ⟨v, vs, rfl, s1 F σ G H δ v d δ1 s hv hb _ fun σ1 t1 a1 => s2 F σ1 G H δ1 vs ds δ' t1 ht e Q fun σ2 t2 a2 => q σ2 t2 ((a1.mono fun j hj => List.mem_append_left _ hj).trans (a2.mono fun j hj => List.mem_append_right _ hj))⟩
  · cases ds with
    | nil => cases h
    | cons d ds =>
      unfold bCons at h
      dsimp only at h
      cases hb : b d δ with
      | none => rw [hb] at h; cases h
      | some δ1 => rw [hb] at h; simp only [List.length_cons, h2.len ds δ1 δ' h]
def bTup (r : List D → De → Option De) : D → De → Option De := fun d δ => match seqOf d with
  | some ds => r ds δ
  | none => none
theorem pg_or {X : Cx} {tg : Expr} {t t' : TG} (h : PG X tg t) (h' : PG X tg t') : PG X tg (fun v σ H Q => t v σ H Q ∨ t' v σ H Q) :=
  ⟨fun pins s σ H v u Q I r q => q.elim (h.run pins s σ H v u Q I r) (h'.run pins s σ H v u Q I r)⟩
theorem fg_tup {es : List Expr} {is : List Nat} {r : List D → De → Option De} {k : Nat} {pos : Pos} (h : FGs c es is r)
    (hn : ∀ env : Env, (assignEach es env).length = es.length := by intro _; rfl) (hst : ∀ env : Env, (assignEach es env).findIdx? (·.1) = none := by intro _; rfl) : FG c (.Tuple es k pos) is (bTup r) := by
  obtain ⟨g, p, sp⟩ := h.ex
  refine ⟨fun v σ H Q => gTup c.K es.length g v σ H Q ∨ gUnl c.K es.length g v σ H Q, fun X h => by have := pg_or (pg_tup (k := k) (pos := pos) h.calm (p X h) (hn _) (hst _)) (pg_unl (k := k) (pos := pos) h.calm (p X h) (hn _) (hst _)); rwa [h.K] at this, fun F σ G H δ v d δ' s rr e Q q => ?_⟩
  unfold bTup at e
  cases d <;> simp only [seqOf, reduceCtorEq] at e
  · rename_i ds
    cases rr with
    | lst h1 h2 => exact .inr ⟨_, _, rfl, .of (s.sub _ _ h1), by rw [h2.length]; exact h.len _ _ _ e, sp F σ G H δ _ ds δ' s h2 e Q q⟩
  · rename_i ds
    cases rr with
    | tup h1 h2 => exact .inl ⟨_, _, rfl, seqT s.sub h1, by rw [h2.length]; exact h.len _ _ _ e, sp F σ G H δ _ ds δ' s h2 e Q q⟩
end
end FL

set_option Elab.async false
set_option linter.all false
set_option maxRecDepth 100000
set_option maxHeartbeats 2000000
/-! FL5: statements, defs. -/
namespace FL
open PySem PySem.Spec PyProof.Rows L2
inductive Out where
  | nx (δ : De) | rt (d : D) | ex (c : Nat) | bk (δ : De) | ct (δ : De)
abbrev Fo := De → Option Out
section
variable (κ : PySem.W.Frag × List (Addr × PySem.Str)) (cl : Nat → Addr) (E : XK) (F : Hp) (G : Hp)
def PostS (Dn : Ends) : Out → Prop
  | .nx δ' => ∀ σ' G' H', S κ F σ' G' H' δ' → Same G G' → Dn.nx σ' H'
  | .bk δ' => ∀ σ' G' H', S κ F σ' G' H' δ' → Same G G' → Dn.bk σ' H'
  | .ct δ' => ∀ σ' G' H', S κ F σ' G' H' δ' → Same G G' → Dn.ct σ' H'
  | .rt d => ∀ σ' G' H' δ' v, S κ F σ' G' H' δ' → Same G G' → Rep κ.1 G' v d → Dn.rt v H'
  | .ex c => ∀ G' H', Same G G' → Same G' H' → Same F H' → E (.ref (cl c)) none H'
end
def SpS (κ : PySem.W.Frag × List (Addr × PySem.Str)) (cl : Nat → Addr) (E : XK) (t : TS) (f : Fo) : Prop :=
  ∀ F σ G H δ o, S κ F σ G H δ → f δ = some o → ∀ Dn, PostS κ cl E F G Dn o → t Dn σ H
structure FS1 (c : SC) (st : Stmt) (f : Fo) : Prop where
  ex : ∃ t, (∀ X, In c X → PS X st t) ∧ SpS c.κ c.cl c.E t f
structure FS (c : SC) (sts : List Stmt) (f : Fo) : Prop where
  ex : ∃ t, (∀ X, In c X → PSs X sts t) ∧ SpS c.κ c.cl c.E t f
theorem PostS.weak {K : PySem.W.Frag} {T : List (Addr × PySem.Str)} {cl : Nat → Addr} {E : XK} {F G G1 : Hp} {Dn : Ends} (e : Same G G1) : ∀ {o : Out}, PostS (K, T) cl E F G Dn o → PostS (K, T) cl E F G1 Dn o
  | .nx _, h => fun σ' G' H' s g => h σ' G' H' s (e.trans g)
  | .bk _, h => fun σ' G' H' s g => h σ' G' H' s (e.trans g)
  | .ct _, h => fun σ' G' H' s g => h σ' G' H' s (e.trans g)
  | .rt _, h => fun σ' G' H' δ' v s g => h σ' G' H' δ' v s (e.trans g)
  | .ex _, h => fun G' H' g => h G' H' (e.trans g)
/-- an expression's outcome, then the rest -/
def thenS {α : Type} (m : M α) (k : α → Fo) : Fo := fun δ => match m δ with
  | none => none
  | some (.ex c) => some (.ex c)
  | some (.ok a δ') => k a δ'
@[simp] theorem thenS_pure {α : Type} (a : α) (k : α → Fo) : thenS (pureM a) k = k a := rfl
theorem Sp2.stepS {K : PySem.W.Frag} {T : List (Addr × PySem.Str)} {cl : Nat → Addr} {E : XK} {ν α : Type} {RA : Hp → ν → α → Prop} {ta : L2.St → Hp → (ν → Hp → Prop) → Prop} {fa : M α} (ha : Sp2 (K, T) cl E RA ta fa) {F : Hp} {σ : L2.St} {G H : Hp} {δ : De} {g : α → Fo} {o : Out} {Dn : Ends} {k : ν → Hp → Prop}
    (s : S (K, T) F σ G H δ) (e : thenS fa g δ = some o) (p : PostS (K, T) cl E F G Dn o)
    (hk : ∀ G' H' δ' x a, S (K, T) F σ G' H' δ' → Same G G' → RA G' x a → g a δ' = some o → PostS (K, T) cl E F G' Dn o → k x H') : ta σ H k := by
  unfold thenS at e
  cases h : fa δ with
  | none => rw [h] at e; cases e
  | some ra =>
    rw [h] at e
    refine ha F σ G H δ ra s h _ ?_
    cases ra with
    | ex c =>
      cases e
      exact p
    | ok a δ' => exact fun G' H' v s' g' rv => hk G' H' δ' v a s' g' rv e (p.weak g')
def nxS : Fo := fun δ => some (.nx δ)
def seqS (f g : Fo) : Fo := fun δ => match f δ with
  | some (.nx δ') => g δ'
  | o => o
section
variable {c : SC}
theorem fs_nil : FS c [] nxS := ⟨_, fun _ _ => pss_nil, fun F σ G H δ o s e Dn p => by cases e; exact p σ G H s (Same.refl _)⟩
theorem fs_one {st : Stmt} {f : Fo} (h : FS1 c st f) : FS c [st] f := by
  obtain ⟨t, p, s⟩ := h.ex
  exact ⟨t, fun X h => pss_one (p X h), s⟩
theorem fs_cons {st : Stmt} {r : List Stmt} {f g : Fo} (h : FS1 c st f) (h' : FS c r g) : FS c (st :: r) (seqS f g) := by
  obtain ⟨t, p, s⟩ := h.ex
  obtain ⟨t', p', s'⟩ := h'.ex
  refine ⟨_, fun X h => pss_cons (p X h) (p' X h), fun F σ G H δ o st e Dn q => ?_⟩
  unfold seqS at e
  cases h : f δ with
  | none => rw [h] at e; cases e
  | some o1 =>
    rw [h] at e
    refine s F σ G H δ o1 st h _ ?_
    cases o1 with
    | nx δ1 =>
      dsimp only at e
      exact fun σ1 G1 H1 s1 g1 => s' F σ1 G1 H1 δ1 o s1 e Dn (q.weak g1)
    | rt d => cases e; exact q
    | ex k => cases e; exact q
    | bk δ1 => cases e; exact q
    | ct δ1 => cases e; exact q
theorem fs_pass {pos} : FS1 c (.Pass pos) nxS := ⟨_, fun _ _ => ps_pass, fun F σ G H δ o s e Dn p => by cases e; exact p σ G H s (Same.refl _)⟩
theorem fs_break {pos} : FS1 c (.Break pos) (fun δ => some (.bk δ)) := ⟨_, fun _ _ => ps_break, fun F σ G H δ o s e Dn p => by cases e; exact p σ G H s (Same.refl _)⟩
theorem fs_continue {pos} : FS1 c (.Continue pos) (fun δ => some (.ct δ)) := ⟨_, fun _ _ => ps_continue, fun F σ G H δ o s e Dn p => by cases e; exact p σ G H s (Same.refl _)⟩
theorem fs_ret {e : Expr} {f : M D} {pos} (h : FE c e f) : FS1 c (.Return (some e) pos) (thenS f fun d _ => some (.rt d)) := by
  obtain ⟨t, pa, sa⟩ := h.ex
  refine ⟨_, fun X h => ps_ret (pa X h), fun F σ G H δ o s e Dn p => ?_⟩
  refine sa.stepS s e p fun G1 H1 δ1 x d s1 g1 rx e1 p1 => ?_
  cases e1
  exact p1 σ G1 H1 δ1 x s1 (Same.refl _) rx
theorem fs_retN {pos} : FS1 c (.Return none pos) (fun _ => some (.rt .non)) :=
  ⟨_, fun _ _ => ps_retN, fun F σ G H δ o s e Dn p => by cases e; exact p σ G H δ _ s (Same.refl _) .non⟩
theorem fs_if {e : Expr} {a b : List Stmt} {t : M Bool} {f g : Fo} {pos} (h : FT c e t) (ha : FS c a f) (hb : FS c b g) : FS1 c (.If e a b pos) (thenS t fun k => if k then f else g) := by
  obtain ⟨tt, pt, st⟩ := h.ex
  obtain ⟨ta, pa, sa⟩ := ha.ex
  obtain ⟨tb, pb, sb⟩ := hb.ex
  refine ⟨_, fun X h => ps_if (pt X h) (pa X h) (pb X h), fun F σ G H δ o s e Dn p => ?_⟩
  refine st.stepS s e p fun G1 H1 δ1 x k s1 g1 rx e1 p1 => ?_
  have ek : x = k := rx
  subst ek
  cases x with
  | true => rw [if_pos rfl]; exact sa F σ G1 H1 δ1 o s1 e1 Dn p1
  | false => rw [if_neg Bool.false_ne_true]; exact sb F σ G1 H1 δ1 o s1 e1 Dn p1
/-- x = e -/
theorem fs_set (i : Nat) {x : Str} {e : Expr} {f : M D} {pos pos' : Pos} (nd : c.N.Nodup) (he : FE c e f) (hi : c.N[i]? = some x := by rfl) (hx : Loc c.sc x := by first | exact Or.inl rfl | exact Or.inr rfl) (hst : c.st x = true := by rfl)
    (hs : ∀ env : Env, env.scope = c.sc → swapsWith e (some (.Name x pos')) pos.line env = pure false := by intro _ _; rfl) : FS1 c (.Assign [.Name x pos'] e pos) (thenS f fun d δ => some (.nx (δ.set i (.val d)))) := by
  obtain ⟨t, pa, sa⟩ := he.ex
  refine ⟨_, fun X h => ps_set (i := i) (by rw [h.N]; exact nd) (by rw [h.N]; exact hi) (by rw [h.sc]; exact hx) (pa X h) (hs _ h.sc) (h.fn x hst), fun F σ G H δ o s e Dn p => ?_⟩
  refine sa.stepS s e p fun G1 H1 δ1 v d s1 g1 rx e1 p1 => ?_
  cases e1
  exact p1 _ G1 H1 (s1.store i rx) (Same.refl _)
/-- x = [..], a list of one's own -/
theorem fs_setOwn (i : Nat) {x : Str} {es : List Expr} {f : M (List D)} {pos pos' p2 : Pos} (nd : c.N.Nodup) (he : FA c es f) (hi : c.N[i]? = some x := by rfl) (hx : Loc c.sc x := by first | exact Or.inl rfl | exact Or.inr rfl) (hst : c.st x = true := by rfl)
    (hs : ∀ env : Env, env.scope = c.sc → swapsWith (.List es p2) (some (.Name x pos')) pos.line env = pure false := by intro _ _; rfl) : FS1 c (.Assign [.Name x pos'] (.List es p2) pos) (thenS f fun ds δ => if ds.length ≤ 1000000 then some (.nx (δ.set i (.own ds))) else none) := by
  obtain ⟨t, pa, sa⟩ := he.ex
  refine ⟨_, fun X h => ps_set (i := i) (by rw [h.N]; exact nd) (by rw [h.N]; exact hi) (by rw [h.sc]; exact hx) (pe_lst (pa X h)) (hs _ h.sc) (h.fn x hst), fun F σ G H δ o s e Dn p => ?_⟩
  refine sa.stepS s e p fun G1 H1 δ1 vs ds s1 g1 rx e1 p1 => ?_
  split at e1
  · rename_i hl
    cases e1
    exact ⟨by rw [rx.length]; exact small6 hl, fun q hq => p1 _ G1 _ (s1.storeOwn i hq rx) (Same.refl _)⟩
  · cases e1
/-- a, b = e (not two displays) -/
theorem fs_asg {tg e : Expr} {f : M D} {is : List Nat} {bd : D → De → Option De} {pos : Pos} (he : FE c e f) (hg : FG c tg is bd)
    (hs : ∀ env : Env, env.scope = c.sc → swapsWithSole [tg] e pos.line env = pure false := by intro _ _; rfl) (hw : ∀ env : Env, env.scope = c.sc → swappedStores [tg] e env = pure none := by intro _ _; rfl)
    (h1 : ∀ env : Env, (assignEach [tg] env).map (·.2) = [assign tg env] := by intro _; rfl) : FS1 c (.Assign [tg] e pos) (thenS f fun d δ => (bd d δ).map .nx) := by
  obtain ⟨t, pa, sa⟩ := he.ex
  obtain ⟨g, pg, sg⟩ := hg.ex
  refine ⟨_, fun X h => ps_asg (pa X h) (pg X h) (hs _ h.sc) (hw _ h.sc) (h1 _), fun F σ G H δ o s e Dn p => ?_⟩
  refine sa.stepS s e p fun G1 H1 δ1 v d s1 g1 rx e1 p1 => ?_
  cases hb : bd d δ1 with
  | none => rw [hb] at e1; cases e1
  | some δ2 =>
    rw [hb] at e1
    cases e1
    exact sg F σ G1 H1 δ1 v d δ2 s1 rx hb _ fun σ' s' a => p1 σ' G1 H1 s' (Same.refl _)
/-- a, b = x, y -/
theorem fs_par (i j : Nat) {x y : Str} {a b : Expr} {f : M (List D)} {px py pt : Pos} {kt k2 pt2} {pos : Pos} (nd : c.N.Nodup) (ha : FA c [a, b] f) (hi : c.N[i]? = some x := by rfl) (hj : c.N[j]? = some y := by rfl) (hij : i ≠ j := by decide)
    (hx : c.sc.names.lookup x = some .local := by rfl) (hy : c.sc.names.lookup y = some .local := by rfl)
    (hw : ∀ env : Env, env.scope = c.sc → swappedStores [.Tuple [.Name x px, .Name y py] kt pt] (.Tuple [a, b] k2 pt2) env = pure (some [x, y]))
    (hs : ∀ env : Env, env.scope = c.sc → swapsWithSole [.Tuple [.Name x px, .Name y py] kt pt] (.Tuple [a, b] k2 pt2) pos.line env = pure false := by intro _ _; rfl) :
    FS1 c (.Assign [.Tuple [.Name x px, .Name y py] kt pt] (.Tuple [a, b] k2 pt2) pos) (thenS f fun ds δ => match ds with | [d, e] => some (.nx ((δ.set i (.val d)).set j (.val e))) | _ => none) := by
  obtain ⟨t, pa, sa⟩ := ha.ex
  refine ⟨_, fun X h => ps_par h.calm (by rw [h.N]; exact nd) (by rw [h.N]; exact hi) (by rw [h.N]; exact hj) hij (by rw [h.sc]; exact hx) (by rw [h.sc]; exact hy) (pa X h) (hw _ h.sc) (hs _ h.sc), fun F σ G H δ o s e Dn p => ?_⟩
  refine sa.stepS s e p fun G1 H1 δ1 vs ds s1 g1 rx e1 p1 => ?_
  split at e1
  · cases e1
    cases rx with
    | cons h t =>
      cases t with
      | cons h' t =>
        cases t
        exact ⟨_, _, rfl, p1 _ G1 H1 ((s1.store i h).store j h') (Same.refl _)⟩
  · cases e1
/-- an expression alone -/
theorem fs_expr {e : Expr} {f : M D} {pos : Pos} (he : FE c e f) (hs : ∀ env : Env, env.scope = c.sc → swapsWith e none pos.line env = pure false := by intro _ _; rfl) : FS1 c (.Expr e pos) (thenS f fun _ => nxS) := by
  obtain ⟨t, pa, sa⟩ := he.ex
  refine ⟨_, fun X h => ps_expr (pa X h) (hs _ h.sc), fun F σ G H δ o s e Dn p => ?_⟩
  refine sa.stepS s e p fun G1 H1 δ1 v d s1 g1 rx e1 p1 => ?_
  cases e1
  exact p1 _ G1 H1 s1 (Same.refl _)
def ownAt (δ : De) (i : Nat) : Option (List D) := match δ[i]? with
  | some (.own xs) => some xs
  | _ => none
theorem ownAt_some {δ : De} {i : Nat} {xs : List D} (h : ownAt δ i = some xs) : δ[i]? = some (.own xs) := by
  unfold ownAt at h
  split at h
  · rename_i q; cases h; exact q
  · cases h
def appS (i : Nat) (f : M D) : Fo := fun δ => match ownAt δ i with
  | none => none
  | some _ => thenS f (fun d δ => match ownAt δ i with
    | some xs => if xs.length < 1000000 then some (.nx (δ.set i (.own (xs ++ [d])))) else none
    | none => none) δ
theorem lt6 {n : Nat} (h : n < 1000000) : n < sizeLine := by rw [sizeLine_eq]; omega
/-- x.append(e), x a list of one's own -/
theorem fs_append (i : Nat) {x : Str} {e : Expr} {f : M D} {p1 p2 p3 pos : Pos} (he : FE c e f) (hN : c.N[i]? = some x := by rfl) (hv : Vis c.sc x := by first | exact Or.inl rfl | exact Or.inr (Or.inl rfl) | exact Or.inr (Or.inr rfl))
    (hd : (x == ("__debug__" : Str)) = false := by decide) (hcd : (x == ("__classdict__" : Str)) = false := by decide)
    (hst : ∀ env : Env, starEach [e] env = (false, eval e env) :: starEach [] env := by intro _; rfl) (hpl : ∀ env : Env, (backTo p3 (starEach [] env)).any (·.1) = false := by intro _; rfl)
    (hb : ∀ env : Env, attributeBase (.Name x p1) "append" env (eval (.Name x p1) env) = eval (.Name x p1) env := by intro _; rfl)
    (hfew : ∀ env : Env, ((backTo p3 (starEach [e] env)).all (fun x => !x.1) && (backToKw p3 (keywordEach [] env)).all (fun x => x.1.isSome) && decide (([e] : List Expr).length + ([] : List Keyword).length + (if ([] : List Keyword).isEmpty then 0 else 1) < 30)) = true := by intro _; rfl)
    (hl : (p2.endLine == p3.line) = true := by rfl)
    (hs : ∀ env : Env, env.scope = c.sc → swapsWith (.Call (.Attribute (.Name x p1) "append" p2) [e] [] p3) none pos.line env = pure false := by intro _ _; rfl) :
    FS1 c (.Expr (.Call (.Attribute (.Name x p1) "append" p2) [e] [] p3) pos) (appS i f) := by
  obtain ⟨t, pa, sa⟩ := he.ex
  refine ⟨tDrop (tBM c.K "list" rAppend (tVar i) (tCons t tNil)), fun X h => ?_, fun F σ G H δ o s e Dn p => ?_⟩
  · have q := pe_bm (X := X) PySem.F.plainAttrs_list PySem.F.slot_list_append PySem.F.type_list_append mt_append (pe_var (i := i) (x := x) (pos := p1) (by rw [h.N]; exact hN) (by rw [h.sc]; exact hv) hd hcd) (pa_cons (pa X h) pa_nil (hst _)) (hb _) (hfew _) hl (hst _) (hpl _)
    rw [h.K] at q
    exact ps_expr q (hs _ h.sc)
  · unfold appS at e
    cases h0 : ownAt δ i with
    | none => rw [h0] at e; cases e
    | some xs0 =>
      rw [h0] at e
      dsimp only at e
      obtain ⟨q, vs, e1, e2, e3, e4, e5⟩ := s.own i xs0 (ownAt_some h0)
      refine ⟨_, e1, .inl ⟨rfl, _, .inl (.inl e2)⟩, ?_⟩
      refine sa.stepS s e p fun G1 H1 δ1 v d s1 g1 rx e1' p1 => ?_
      cases h1 : ownAt δ1 i with
      | none => rw [h1] at e1'; cases e1'
      | some xs =>
        rw [h1] at e1'
        dsimp only at e1'
        split at e1'
        · rename_i hl
          cases e1'
          obtain ⟨q', ws, f1, f2, f3, f4, f5⟩ := s1.own i xs (ownAt_some h1)
          rw [e1] at f1
          cases f1
          refine ⟨_, ws, v, rfl, rfl, f2, by rw [f3.length]; exact lt6 hl, ?_⟩
          exact p1 σ G1 _ (s1.setOwn (ownAt_some h1) e1 (f3.append (.cons rx .nil))) (Same.refl _)
        · cases e1'
/-- x[k] = e, x a list of one's own -/
def setIxS (i : Nat) (f g : M D) : Fo := thenS f fun d δ => match ownAt δ i with
  | none => none
  | some _ => thenS g (fun k δ => match k, ownAt δ i with
    | .int k, some xs => match ixN xs.length k with
      | some j => some (.nx (δ.set i (.own (xs.set j d))))
      | none => none
    | _, _ => none) δ
theorem fs_setIx (i : Nat) {x : Str} {e k : Expr} {f g : M D} {p1 p2 pos : Pos} (he : FE c e f) (hk : FE c k g) (hN : c.N[i]? = some x := by rfl) (hv : Vis c.sc x := by first | exact Or.inl rfl | exact Or.inr (Or.inl rfl) | exact Or.inr (Or.inr rfl))
    (hd : (x == ("__debug__" : Str)) = false := by decide) (hcd : (x == ("__classdict__" : Str)) = false := by decide)
    (ha : ∀ (env : Env) v, assign (.Subscript (.Name x p1) k p2) env v = (do
      let ov ← holding [v] (eval (.Name x p1) env)
      let iv ← holding [v, ov] (eval k env)
      standAt p2
      holding [v, ov, iv] (setItem ov iv v)
      release [v, ov, iv] []) := by intro _ _; rfl)
    (hs : ∀ env : Env, env.scope = c.sc → swapsWithSole [.Subscript (.Name x p1) k p2] e pos.line env = pure false := by intro _ _; rfl) (hw : ∀ env : Env, env.scope = c.sc → swappedStores [.Subscript (.Name x p1) k p2] e env = pure none := by intro _ _; rfl)
    (h1 : ∀ env : Env, (assignEach [.Subscript (.Name x p1) k p2] env).map (·.2) = [assign (.Subscript (.Name x p1) k p2) env] := by intro _; rfl) :
    FS1 c (.Assign [.Subscript (.Name x p1) k p2] e pos) (setIxS i f g) := by
  obtain ⟨t, pa, sa⟩ := he.ex
  obtain ⟨tk, pk, sk⟩ := hk.ex
  refine ⟨_, fun X h => ps_asg (pa X h) (pg_sub (pe_var (i := i) (x := x) (pos := p1) (by rw [h.N]; exact hN) (by rw [h.sc]; exact hv) hd hcd) (pk X h) set_list (ha _)) (hs _ h.sc) (hw _ h.sc) (h1 _), fun F σ G H δ o s e Dn p => ?_⟩
  refine sa.stepS s e p fun G1 H1 δ1 v d s1 g1 rx e1 p1 => ?_
  cases h0 : ownAt δ1 i with
  | none => rw [h0] at e1; cases e1
  | some xs0 =>
    rw [h0] at e1
    dsimp only at e1
    obtain ⟨q, vs, q1, q2, q3, q4, q5⟩ := s1.own i xs0 (ownAt_some h0)
    refine ⟨_, q1, ?_⟩
    refine sk.stepS s1 e1 p1 fun G2 H2 δ2 u k s2 g2 ry e2 p2 => ?_
    cases k <;> try (cases e2)
    rename_i kk
    cases ry
    cases h2 : ownAt δ2 i with
    | none => rw [h2] at e2; cases e2
    | some xs =>
      rw [h2] at e2
      dsimp only at e2
      cases h3 : ixN xs.length kk with
      | none => rw [h3] at e2; cases e2
      | some j =>
        rw [h3] at e2
        cases e2
        obtain ⟨q', ws, f1, f2, f3, f4, f5⟩ := s2.own i xs (ownAt_some h2)
        rw [q1] at f1
        cases f1
        refine ⟨_, ws, kk, j, rfl, rfl, f2, by rw [f3.length]; exact h3, ?_⟩
        exact p2 σ G2 _ (s2.setOwn (ownAt_some h2) q1 (f3.set (rx.mono g2) j)) (Same.refl _)
/-- a list of one's own is read as a value from now on: no step of the program -/
def freezeS (i : Nat) (f : Fo) : Fo := fun δ => match ownAt δ i with
  | some xs => f (δ.set i (.val (.lst xs)))
  | none => none
theorem fs_freeze (i : Nat) {sts : List Stmt} {f : Fo} (h : FS c sts f) : FS c sts (freezeS i f) := by
  obtain ⟨t, p, sp⟩ := h.ex
  refine ⟨t, p, fun F σ G H δ o s e Dn q => ?_⟩
  unfold freezeS at e
  cases h0 : ownAt δ i with
  | none => rw [h0] at e; cases e
  | some xs =>
    rw [h0] at e
    obtain ⟨a, vs, h1, h2, h3, h4, s'⟩ := s.freeze (ownAt_some h0)
    exact sp F σ _ H _ o s' e Dn (q.weak (same_upd h2))
/-- x op= e, ints -/
theorem fs_aug (i : Nat) {x : Str} {op : Operator} {g : Int → Int → Int} {e : Expr} {f : M D} {pos pos' : Pos} (nd : c.N.Nodup) (he : FE c e f) (ho : ∀ X, In c X → PIp X op (ipI g)) (hi : c.N[i]? = some x := by rfl) (hx : Loc c.sc x := by first | exact Or.inl rfl | exact Or.inr rfl) (hst : c.st x = true := by rfl) :
    FS1 c (.AugAssign (.Name x pos') op e pos) (thenS (bindM (varM i) fun a => bindM f fun b => liftO (int2 (fun i j => .int (g i j)) a b)) fun d δ => some (.nx (δ.set i (.val d)))) := by
  obtain ⟨t, pa, sa⟩ := he.ex
  refine ⟨_, fun X h => ps_aug (i := i) (by rw [h.N]; exact nd) (by rw [h.N]; exact hi) (by rw [h.sc]; exact hx) (pa X h) (ho X h) (h.fn x hst), fun F σ G H δ o s e Dn p => ?_⟩
  unfold thenS at e
  cases hv : varM i δ with
  | none => unfold bindM at e; rw [hv] at e; cases e
  | some ra =>
    cases ra with
    | ex k => unfold varM at hv; split at hv <;> cases hv
    | ok a δ' =>
      have ed : δ' = δ ∧ δ[i]? = some (.val a) := by
        unfold varM at hv
        split at hv
        · rename_i d hd; cases hv; exact ⟨rfl, hd⟩
        · cases hv
      obtain ⟨rfl, hd⟩ := ed
      rw [bindM_ok hv] at e
      obtain ⟨v, h1, h2⟩ := s.val i a hd
      refine ⟨v, h1, ?_⟩
      have e' : thenS (bindM f fun b => liftO (int2 (fun i j => .int (g i j)) a b)) (fun d δ => some (Out.nx (δ.set i (.val d)))) δ' = some o := e
      have sb : Sp2 c.κ c.cl c.E (Rep c.K) t f := sa
      -- f, then the operator
      have e2 : thenS f (fun b => thenS (liftO (int2 (fun i j => .int (g i j)) a b)) (fun d δ => some (Out.nx (δ.set i (.val d))))) δ' = some o := by
        rw [← e']
        unfold thenS bindM
        cases f δ' with
        | none => rfl
        | some rb => cases rb <;> rfl
      refine sb.stepS s e2 p fun G1 H1 δ1 u b s1 g1 ry e3 p1 => ?_
      cases hb : int2 (fun i j => .int (g i j)) a b with
      | none => rw [hb] at e3; cases e3
      | some d =>
        rw [hb] at e3
        cases e3
        unfold int2 at hb
        split at hb
        · cases hb
          cases h2
          cases ry
          exact ⟨_, _, rfl, rfl, p1 _ G1 H1 (s1.store i (.int _)) (Same.refl _)⟩
        · cases hb
/-! raise X('..') -/
structure ExcC (K : PySem.W.Frag) (mg : Str → Option Value) (x : Str) (C : Addr) : Prop where
  g : mg x = some (.ref C)
  x : PySem.W.excIn K C [.type "ValueError", .type "Exception", .type "BaseException", .type "object"] "ValueError.__new__" = true
  k : PySem.W.keepIn K (.ref C) = true
  b : PySem.W.subIn K (.ref C) (.type "BaseException") = some true
  t : PySem.W.typeIn K (.ref C) = some (.type "type")
theorem fs_raise (n : Nat) {x m : Str} {j : Nat} {p p2 p3 pos : Pos} (h : ExcC c.K c.mg x (c.cl n)) (hg : Gb c x := by rfl) (hdb : (x == ("__debug__" : Str)) = false := by decide) :
    FS1 c (.Raise (some (.Call (.Name x p) [.Constant (.str m) j p2] [] p3)) none pos) (fun _ => some (.ex n)) := by
  refine ⟨_, fun X q => ps_raise q.calm q.tk (pmk_own PySem.F.excBase_ValueError (by rw [q.K]; exact h.x) (by rw [q.mg]; exact h.g) (by rw [q.K]; exact h.k) (raises_own (by rw [q.K]; exact h.b) (by rw [q.K]; exact h.t)) (show X.env.scope.names.lookup _ = _ by rw [q.sc]; exact hg) hdb), fun F σ G H δ o s e Dn p => ?_⟩
  cases e
  exact p G H (Same.refl _) s.sub s.frm
/-! for -/
def forD (bd : D → De → Option De) (body : Fo) : List D → Fo
  | [], δ => some (.nx δ)
  | x :: r, δ => match bd x δ with
    | none => none
    | some δ1 => match body δ1 with
      | some (.nx δ2) => forD bd body r δ2
      | some (.ct δ2) => forD bd body r δ2
      | some (.bk δ2) => some (.nx δ2)
      | o => o
theorem fs_for {tg iter : Expr} {body : List Stmt} {items : M (List D)} {is : List Nat} {bd : D → De → Option De} {f : Fo} {pos : Pos} (hi : FI c tg iter items) (hg : FG c tg is bd) (hb : FS c body f)
    (hs : ∀ (env : Env) x, foldedSetIterable iter env x = pure x := by intro _ _; rfl) : FS1 c (.For tg iter body [] pos) (thenS items fun ds => forD bd f ds) := by
  obtain ⟨wi, pi, si⟩ := hi.ex
  obtain ⟨g, pg, sg⟩ := hg.ex
  obtain ⟨t, pb, sb⟩ := hb.ex
  refine ⟨_, fun X h => ps_for h.po h.calm (pi X h) (pg X h) (pb X h) (hs _), fun F σ G H δ o s e Dn p => ?_⟩
  refine si.stepS s e p fun G1 H1 δ1 J ds s1 g1 W e1 p1 => ?_
  refine ⟨fun i m σ H => m = ds.length - i ∧ i ≤ ds.length ∧ ∃ G2 δ2, Same G1 G2 ∧ S c.κ F σ G2 H δ2 ∧ forD bd f (ds.drop i) δ2 = some o, ⟨ds.length, by simp, Nat.zero_le _, G1, δ1, Same.refl _, s1, e1⟩, ?_⟩
  rintro i m σ2 H2 ⟨rfl, hi, G2, δ2, g2, s2, e2⟩
  by_cases hl : i < ds.length
  · have hd : ds[i]? = some ds[i] := List.getElem?_eq_getElem hl
    have edr : ds.drop i = ds[i] :: ds.drop (i + 1) := (List.drop_eq_getElem_cons hl)
    rw [edr, forD] at e2
    cases hbd : bd ds[i] δ2 with
    | none => rw [hbd] at e2; cases e2
    | some δ3 =>
      rw [hbd] at e2
      dsimp only at e2
      refine .inr ⟨W.go _ F σ2 G2 H2 δ2 i g2 s2 hl, fun σ' H' => ∃ G5 δ5, Same G1 G5 ∧ S c.κ F σ' G5 H' δ5 ∧ forD bd f (ds.drop (i + 1)) δ5 = some o, fun σ' H' ⟨G5, δ5, z1, z2, z3⟩ => ⟨ds.length - (i + 1), by omega, rfl, hl, G5, δ5, z1, z2, z3⟩, fun x H3 hy => ?_⟩
      obtain ⟨G3, s3, g3, rx⟩ := W.yld _ F σ2 G2 H2 δ2 i x H3 _ g2 s2 hy hd
      refine sg F σ2 G3 H3 δ2 x _ δ3 s3 rx hbd _ fun σ3 s4 _ => ?_
      have g13 : Same G1 G3 := g2.trans g3
      cases hf : f δ3 with
      | none => rw [hf] at e2; cases e2
      | some o1 =>
        rw [hf] at e2
        refine sb F σ3 G3 H3 δ3 o1 s4 hf _ ?_
        cases o1 with
        | nx δ4 => exact fun σ' G' H' s' g' => ⟨G', δ4, g13.trans g', s', e2⟩
        | ct δ4 => exact fun σ' G' H' s' g' => ⟨G', δ4, g13.trans g', s', e2⟩
        | bk δ4 => cases e2; exact fun σ' G' H' s' g' => p1 σ' G' H' s' (g13.trans g')
        | rt d => cases e2; exact fun σ' G' H' δ' v s' g' rv => p1 σ' G' H' δ' v s' (g13.trans g') rv
        | ex k => cases e2; exact fun G' H' g' => p1 G' H' (g13.trans g')
  · have ei : i = ds.length := by omega
    subst ei
    rw [List.drop_length] at e2
    cases e2
    exact .inl ⟨W.stop _ F σ2 G2 H2 δ2 _ g2 s2 (Nat.le_refl _), p1 σ2 G2 H2 s2 g2⟩
end

/-! ### defs -/
def startD (N : List Str) (ds : List D) : De := ds.map Sl.val ++ List.replicate (N.length - ds.length) Sl.un
def outRes : Option Out → Option Res
  | some (.rt d) => some (.ret d)
  | some (.nx _) => some (.ret .non)
  | some (.ex k) => some (.ex k)
  | _ => none
def defF (N : List Str) (n : Nat) (f : Fo) : DF := fun ds => if ds.length = n then outRes (f (startD N ds)) else none
theorem start_len {N : List Str} {vs : List V} (h : vs.length ≤ N.length) : (L2.start N vs).length = N.length := by
  unfold L2.start; simp; omega
theorem startD_len {N : List Str} {ds : List D} (h : ds.length ≤ N.length) : (startD N ds).length = N.length := by
  unfold startD; simp; omega
theorem S.start {K : PySem.W.Frag} {F G H : Hp} {N : List Str} {vs : List V} {ds : List D} (sub : Same G H) (frm : Same F H) (dis : ∀ b o, F b = some o → G b = none) (ng : ∀ b ps, G b ≠ some (.tbl ps)) (r : RepL K G vs ds) (h : ds.length ≤ N.length) : S (K, []) F (L2.start N vs) G H (startD N ds) := by
  have hv : vs.length ≤ N.length := by rw [r.length]; exact h
  have vl : ∀ (i : Nat) d, (startD N ds)[i]? = some (.val d) → ds[i]? = some d := fun i d e => by
    unfold startD at e
    rw [List.getElem?_append] at e
    split at e
    · rw [List.getElem?_map] at e
      cases q : ds[i]? with
      | none => rw [q] at e; cases e
      | some d' => rw [q] at e; cases e; rfl
    · rw [List.getElem?_replicate] at e
      split at e <;> cases e
  have no : ∀ (i : Nat) xs, (startD N ds)[i]? ≠ some (.own xs) := fun i xs e => by
    unfold startD at e
    rw [List.getElem?_append] at e
    split at e
    · rw [List.getElem?_map] at e
      cases q : ds[i]? with
      | none => rw [q] at e; cases e
      | some d' => rw [q] at e; cases e
    · rw [List.getElem?_replicate] at e
      split at e <;> cases e
  refine ⟨sub, frm, dis, by rw [startD_len h, start_len hv], fun i d e => ?_, fun i xs e => absurd e (no i xs), fun i j xs ys _ e => absurd e (no i xs), fun x hx => absurd (show x ∈ ([] : List (Addr × PySem.Str)) from hx) (by simp), fun x hx => absurd (show x ∈ ([] : List (Addr × PySem.Str)) from hx) (by simp), ng, .inl rfl⟩
  obtain ⟨v, h1, h2⟩ := r.get (vl i d e)
  refine ⟨v, ?_, h2⟩
  unfold L2.start
  rw [List.getElem?_append_left (by
    have := List.getElem?_eq_some_iff.mp h1
    obtain ⟨z, _⟩ := this
    simpa using z), List.getElem?_map, h1]
  rfl
/-- the body's word, for whatever is wanted of an exception, gives the def's -/
theorem fnD {P : Program} {w : World} {K : PySem.W.Frag} {mg : Str → Option Value} {base : Heap} {cl : Nat → Addr} {k : Nat} {x : Str} {st : Stmt} {a : Addr} {fd : FuncData} {N ps : List Str} {f : Fo} (Fn : Fun K x x st a fd) (Sc : FnScope N ps (defScope st)) (hm : mg x = some (.ref a)) (hb : Binds K fd ps []) (hN : ps.length ≤ N.length)
    (body : ∀ E : XK, FS ⟨P, w, K, mg, base, N, defScope st, k, cl, E, fun _ => true, [], .none, ""⟩ (defBody st) f) : FnD P w K mg base cl (k + 1) x (defF N ps.length f) := by
  refine ⟨a, fd, ps, hm, Fn.kp, hb, Fn.okX Sc (fun vs H Q E h => ?_) (fun cdv A outer s H vs Q E hr h => ?_)⟩
  · obtain ⟨F, G, ds, r, _, _, _, _, h1, h2, _⟩ := h
    unfold defF at h2
    split at h2
    · rename_i q; rw [h1.length, q]
    · cases h2
  · obtain ⟨F, G, ds, r, sub, frm, dis, ng, h1, h2, post⟩ := h
    unfold defF at h2
    split at h2
    · rename_i q
      obtain ⟨t, pt, sp⟩ := (body E).ex
      refine ⟨t, pt _ ⟨rfl, rfl, rfl, rfl, rfl, rfl, rfl, rfl, hr, takes_of rfl rfl rfl rfl, fun _ _ => Or.inl rfl, passes_of rfl, Or.inl rfl⟩, ?_⟩
      have s0 : S (K, []) F (L2.start N vs) G H (startD N ds) := S.start sub frm dis ng h1 (by omega)
      cases ho : f (startD N ds) with
      | none => rw [ho] at h2; cases h2
      | some o =>
        rw [ho] at h2
        refine sp F _ G H _ o s0 ho _ ?_
        cases o with
        | rt d => cases h2; exact fun σ' G' H' δ' v s' g' rv => post G' H' v g' s'.sub s'.frm s'.dis s'.ntg rv
        | nx δ' => cases h2; exact fun σ' G' H' s' g' => post G' H' _ g' s'.sub s'.frm s'.dis s'.ntg .non
        | ex c => cases h2; exact fun G' H' g' h' f' => post G' H' g' h' f'
        | bk δ' => cases h2
        | ct δ' => cases h2
    · cases h2
end FL

set_option Elab.async false
set_option linter.all false
set_option maxRecDepth 100000
set_option maxHeartbeats 2000000
/-! FL6: list comprehensions. -/
namespace FL
open PySem PySem.Spec PyProof.Rows L2
def blkSC (c : SC) (scope : Scope) : SC := { c with sc := relS scope c.sc, E := fun _ _ _ => False, st := fun x => scope.names.lookup x == some .local || scope.names.lookup x == some .cell }
theorem in_blk {c : SC} {X : Cx} {scope : Scope} (h : In c X) (s : Shared) (H : Hp) (C : Addr) (cl : List (Str × Addr)) (fp : List Addr) : In (blkSC c scope) (X.blk s H scope (compEnvC scope cl C X.env) fp) where
  P := h.P
  w := h.w
  K := h.K
  mg := h.mg
  base := h.base
  N := h.N
  sc := by show relS scope X.env.scope = relS scope c.sc; rw [h.sc]
  calm := h.calm
  room := h.room
  tk := L2.takes0
  fn := fun x hx => by
    have hx' : (scope.names.lookup x == some .local || scope.names.lookup x == some .cell) = true := hx
    rw [Bool.or_eq_true] at hx'
    rcases hx' with q | q
    · right
      show (relS scope X.env.scope).names.lookup x = some .local
      exact lookup_relS_keep (by decide) (beq_iff_eq.mp q)
    · left; exact q
  po := PassesOwn.never
  code := h.code
theorem wipe_get {σ : L2.St} {j : Nat} : ∀ {vs : List Nat}, (wipe σ vs)[j]? = if j ∈ vs then (σ[j]?).map (fun _ => none) else σ[j]?
  | [] => by simp [wipe]
  | v :: vs => by
    unfold wipe
    by_cases hv : v = j
    · subst hv
      rw [List.getElem?_set]
      simp only [if_true, List.mem_cons, true_or, wipe_length]
      split
      · rename_i hl; rw [List.getElem?_eq_getElem hl]; rfl
      · rename_i hl; rw [List.getElem?_eq_none_iff.mpr (by omega)]; rfl
    · rw [List.getElem?_set_ne hv, wipe_get (vs := vs)]
      have : (j ∈ v :: vs) ↔ j ∈ vs := by simp [Ne.symm hv]
      simp only [this]
theorem wipe_agr {σ σ' : L2.St} {is vs : List Nat} (a : Agr is (wipe σ vs) σ') (h : ∀ j ∈ is, j ∈ vs) : wipe σ' vs = wipe σ vs := by
  apply List.ext_getElem?
  intro j
  rw [wipe_get, wipe_get]
  by_cases hj : j ∈ vs
  · rw [if_pos hj, if_pos hj]
    have hl : σ'.length = σ.length := a.1.trans (wipe_length _ _)
    cases h1 : σ'[j]? with
    | none => rw [List.getElem?_eq_none_iff] at h1; rw [List.getElem?_eq_none_iff.mpr (by omega)]
    | some x =>
      obtain ⟨h2, _⟩ := List.getElem?_eq_some_iff.mp h1
      rw [List.getElem?_eq_getElem (show j < σ.length by omega)]
      rfl
  · rw [if_neg hj, if_neg hj, a.2 j fun z => hj (h j z), wipe_get, if_neg hj]
def wipeD (δ : De) : List Nat → De
  | [] => δ
  | v :: vs => (wipeD δ vs).set v .un
def restD (δ δ' : De) : List Nat → De
  | [] => δ'
  | v :: vs => (restD δ δ' vs).set v ((δ[v]?).getD .un)
theorem wipeD_len (δ : De) : ∀ vs : List Nat, (wipeD δ vs).length = δ.length
  | [] => rfl
  | v :: vs => by unfold wipeD; rw [List.length_set, wipeD_len δ vs]
theorem restD_len (δ δ' : De) : ∀ vs : List Nat, (restD δ δ' vs).length = δ'.length
  | [] => rfl
  | v :: vs => by unfold restD; rw [List.length_set, restD_len δ δ' vs]
theorem restD_get {δ δ' : De} {j : Nat} : ∀ {vs : List Nat}, (restD δ δ' vs)[j]? = if j ∈ vs then (δ'[j]?).map (fun _ => (δ[j]?).getD .un) else δ'[j]?
  | [] => by simp [restD]
  | v :: vs => by
    unfold restD
    by_cases hv : v = j
    · subst hv
      rw [List.getElem?_set]
      simp only [if_true, List.mem_cons, true_or, restD_len]
      split
      · rename_i hl; rw [List.getElem?_eq_getElem hl]; rfl
      · rename_i hl; rw [show δ'[v]? = none from List.getElem?_eq_none_iff.mpr (by omega)]; rfl
    · rw [List.getElem?_set_ne hv, restD_get (vs := vs)]
      have : (j ∈ v :: vs) ↔ j ∈ vs := by simp [Ne.symm hv]
      simp only [this]
def noOwn (δ : De) (vs : List Nat) : Bool := vs.all fun v => (ownAt δ v).isNone
section
variable {K : PySem.W.Frag} {T : List (Addr × PySem.Str)} {F G H : Hp} {σ : L2.St} {δ : De}
theorem S.wipes (s : S (K, T) F σ G H δ) : ∀ vs : List Nat, S (K, T) F (L2.wipe σ vs) G H (wipeD δ vs)
  | [] => s
  | v :: vs => (S.wipes s vs).wipe v none
theorem S.relist {D : Addr} {a b : List V} (s : S (K, T) (upd F D (.lst a)) σ G H δ) : S (K, T) (upd F D (.lst b)) σ G (upd H D (.lst b)) δ := by
  have gd : G D = none := s.dis D _ upd_same
  refine ⟨fun x o e => ?_, fun x o e => ?_, fun x o e => ?_, s.len, s.val, fun i xs e => ?_, s.inj, tabs_lst s.tab (s.frm D _ upd_same), fun x hx => ⟨?_, (s.tnf x hx).2⟩, s.ntg, s.ntf.imp_right fun z b ps e => ?_⟩
  · rw [upd_ne (ne_of_none e gd)]; exact s.sub _ _ e
  · by_cases hx : x = D
    · subst hx; rw [upd_same] at e ⊢; exact e
    · rw [upd_ne hx] at e ⊢; exact s.frm x o (by rw [upd_ne hx]; exact e)
  · by_cases hx : x = D
    · subst hx; exact gd
    · rw [upd_ne hx] at e; exact s.dis x o (by rw [upd_ne hx]; exact e)
  · obtain ⟨p, vs, h1, h2, h3, h4, h5⟩ := s.own i xs e
    have np : p ≠ D := fun z => by subst z; rw [upd_same] at h5; cases h5
    rw [upd_ne np] at h5
    exact ⟨p, vs, h1, by rw [upd_ne np]; exact h2, h3, h4, by rw [upd_ne np]; exact h5⟩
  · have q := (s.tnf x hx).1
    have nx : x.1 ≠ D := fun z => by rw [z, upd_same] at q; cases q
    rw [upd_ne nx] at q ⊢
    exact q
  · by_cases hb : b = D
    · subst hb; rw [upd_same] at e; cases e
    · rw [upd_ne hb] at e; exact z b ps (by rw [upd_ne hb]; exact e)
/-- the comprehension's list joins the callers' for a while -/
theorem S.enter (s : S (K, T) F σ G H δ) {D : Addr} {a : List V} (h : H D = none) : S (K, T) (upd F D (.lst a)) σ G (upd H D (.lst a)) δ := by
  have gd : G D = none := s.sub.free h
  have s1 := s.newH (o := .lst a) h
  refine ⟨s1.sub, fun x o e => ?_, fun x o e => ?_, s.len, s.val, fun i xs e => ?_, s.inj, s1.tab, fun x hx => ⟨?_, (s.tnf x hx).2⟩, s.ntg, s.ntf.imp_right fun z b ps e => ?_⟩
  · by_cases hx : x = D
    · subst hx; rw [upd_same] at e ⊢; exact e
    · rw [upd_ne hx] at e; exact s1.frm x o e
  · by_cases hx : x = D
    · subst hx; exact gd
    · rw [upd_ne hx] at e; exact s.dis x o e
  · obtain ⟨p, vs, h1, h2, h3, h4, h5⟩ := s1.own i xs e
    have np : p ≠ D := fun z => by
      subst z
      obtain ⟨q, ws, e1, e2, _⟩ := s.own i xs e
      rw [h1] at e1; cases e1
      rw [h] at e2; cases e2
    exact ⟨p, vs, h1, h2, h3, h4, by rw [upd_ne np]; exact h5⟩
  · obtain ⟨ps, hp⟩ := s.tab_at hx
    rw [upd_ne (ne_of_none hp h)]
    exact (s.tnf x hx).1
  · by_cases hb : b = D
    · subst hb; rw [upd_same] at e; cases e
    · rw [upd_ne hb] at e; exact z b ps e
theorem S.leave {D : Addr} {a : List V} (s : S (K, T) (upd F D (.lst a)) σ G H δ) (hf : F D = none) : S (K, T) F σ (upd G D (.lst a)) H δ := by
  have gd : G D = none := s.dis D _ upd_same
  have sg : Same G (upd G D (.lst a)) := same_upd gd
  refine ⟨fun x o e => ?_, fun x o e => ?_, fun x o e => ?_, s.len, fun i d e => ?_, fun i xs e => ?_, s.inj, s.tab, fun x hx => ?_, fun b ps e => ?_, s.ntf.imp_right fun z b ps e => ?_⟩
  · by_cases hx : x = D
    · subst hx; rw [upd_same] at e; rw [← e]; exact s.frm x _ upd_same
    · rw [upd_ne hx] at e; exact s.sub x o e
  · exact s.frm x o (by rw [upd_ne (ne_of_none e hf)]; exact e)
  · rw [upd_ne (ne_of_none e hf)]; exact s.dis x o (by rw [upd_ne (ne_of_none e hf)]; exact e)
  · obtain ⟨v, h1, h2⟩ := s.val i d e
    exact ⟨v, h1, h2.mono sg⟩
  · obtain ⟨p, vs, h1, h2, h3, h4, h5⟩ := s.own i xs e
    have np : p ≠ D := fun z => by subst z; rw [upd_same] at h5; cases h5
    rw [upd_ne np] at h5
    exact ⟨p, vs, h1, h2, h3.mono sg, by rw [upd_ne np]; exact h4, h5⟩
  · have q := s.tnf x hx
    have nx : x.1 ≠ D := fun z => by rw [z, upd_same] at q; exact nomatch q.1
    rw [upd_ne nx] at q ⊢
    exact q
  · by_cases hb : b = D
    · subst hb; rw [upd_same] at e; cases e
    · rw [upd_ne hb] at e; exact s.ntg b ps e
  · by_cases hb : b = D
    · subst hb; rw [hf] at e; cases e
    · exact z b ps (by rw [upd_ne hb]; exact e)
theorem S.unblock {G0 H0 : Hp} {σ0 : L2.St} {δ0 : De} {vs : List Nat} (s : S (K, T) F σ G H δ) (s0 : S (K, T) F σ0 G0 H0 δ0) (g : Same G0 G) (ag : ∀ j, j ∉ vs → σ[j]? = σ0[j]?) (hl : σ.length = σ0.length) (no : noOwn δ0 vs = true) : S (K, T) F σ0 G H (restD δ0 δ vs) := by
  have own0 : ∀ v ∈ vs, ∀ xs, δ0[v]? ≠ some (.own xs) := fun v hv xs e => by
    have := List.all_eq_true.mp no v hv
    unfold ownAt at this
    rw [e] at this
    cases this
  have back : ∀ (j : Nat) xs, (restD δ0 δ vs)[j]? = some (.own xs) → j ∉ vs ∧ δ[j]? = some (.own xs) := fun j xs e => by
    rw [restD_get] at e
    split at e
    · rename_i hj
      cases h1 : δ[j]? with
      | none => rw [h1] at e; cases e
      | some z =>
        rw [h1] at e
        simp only [Option.map_some, Option.some.injEq] at e
        cases h2 : δ0[j]? with
        | none => rw [h2] at e; cases e
        | some y =>
          rw [h2] at e
          simp only [Option.getD_some] at e
          subst e
          exact absurd h2 (own0 j hj xs)
    · rename_i hj
      exact ⟨hj, e⟩
  refine ⟨s.sub, s.frm, s.dis, by rw [restD_len, s.len, hl], fun i d e => ?_, fun i xs e => ?_, fun i j xs ys hn e1 e2 => ?_, s.tab, s.tnf, s.ntg, s.ntf⟩
  · rw [restD_get] at e
    split at e
    · cases h1 : δ[i]? with
      | none => rw [h1] at e; cases e
      | some z =>
        rw [h1] at e
        simp only [Option.map_some, Option.some.injEq] at e
        cases h2 : δ0[i]? with
        | none => rw [h2] at e; cases e
        | some y =>
          rw [h2] at e
          simp only [Option.getD_some] at e
          subst e
          obtain ⟨v, q1, q2⟩ := s0.val i d h2
          exact ⟨v, q1, q2.mono g⟩
    · rename_i hj
      obtain ⟨v, q1, q2⟩ := s.val i d e
      exact ⟨v, by rw [← ag i hj]; exact q1, q2⟩
  · obtain ⟨hj, e'⟩ := back i xs e
    obtain ⟨p, ws, q1, q2⟩ := s.own i xs e'
    exact ⟨p, ws, by rw [← ag i hj]; exact q1, q2⟩
  · obtain ⟨hi, e1'⟩ := back i xs e1
    obtain ⟨hj, e2'⟩ := back j ys e2
    rw [← ag i hi, ← ag j hj]
    exact s.inj i j xs ys hn e1' e2'
end
structure FTs (c : SC) (ifs : List Expr) (f : M Bool) : Prop where
  ex : ∃ t, (∀ X, In c X → PTs X ifs t) ∧ Sp2 c.κ c.cl c.E RepB t f
section
variable {c : SC}
theorem fts_nil : FTs c [] (pureM true) := ⟨tYes, fun _ _ => pts_nil, Sp2.pure (v := true) fun _ => rfl⟩
theorem fts_one {e : Expr} {f : M Bool} (h : FT c e f) : FTs c [e] f := by
  obtain ⟨t, p, s⟩ := h.ex
  exact ⟨t, fun X h => pts_one (p X h), s⟩
def lcD (vs : List Nat) (bd : D → De → Option De) (tt : M Bool) (fe : M D) : List D → M (List D)
  | [], δ => some (.ok [] δ)
  | x :: r, δ => if noOwn δ vs then match bd x (wipeD δ vs) with
    | none => none
    | some δ1 => match tt δ1 with
      | some (.ok true δ2) => match fe δ2 with
        | some (.ok y δ3) => match lcD vs bd tt fe r (restD δ δ3 vs) with
          | some (.ok ys δ4) => some (.ok (y :: ys) δ4)
          | _ => none
        | _ => none
      | some (.ok false δ2) => lcD vs bd tt fe r (restD δ δ2 vs)
      | _ => none
    else none
def lcM (vs : List Nat) (bd : D → De → Option De) (tt : M Bool) (fe : M D) (items : M (List D)) : M D :=
  bindM items fun ds => if ds.length < 1000000 then bindM (lcD vs bd tt fe ds) fun ys => pureM (.lst ys) else fun _ => none
theorem sp_lc {K : PySem.W.Frag} {T : List (Addr × PySem.Str)} {cl : Nat → Addr} {E : XK} {wi : TI} {g : TG} {t : TT} {te : TE} {items : M (List D)} {is vs : List Nat} {bd : D → De → Option De} {tt : M Bool} {fe : M D}
    (si : Sp2 (K, T) cl E (Walks K) wi items) (sg : ∀ F σ G H δ v d δ', S (K, T) F σ G H δ → Rep K G v d → bd d δ = some δ' → ∀ Q, (∀ σ', S (K, T) F σ' G H δ' → Agr is σ σ' → Q σ' H) → g v σ H Q)
    (st : Sp2 (K, T) cl (fun _ _ _ => False) RepB t tt) (se : Sp2 (K, T) cl (fun _ _ _ => False) (Rep K) te fe) (his : ∀ i ∈ is, i ∈ vs) :
    Sp2 (K, T) cl E (Rep K) (tLc wi g t te vs) (lcM vs bd tt fe items) := by
  intro F σ G H δ r s e Q p
  refine si.step s e p fun G1 H1 δ1 J ds s1 g1 W e1 p1 => ?_
  split at e1
  · rename_i hlen
    intro D hD
    have fD : F D = none := s1.frm.free hD
    -- the end's word
    cases hlc : lcD vs bd tt fe ds δ1 with
    | none => unfold bindM at e1; rw [hlc] at e1; cases e1
    | some rr =>
      cases rr with
      | ex k =>
        exfalso
        -- a comprehension hands no exception on
        have : ∀ (ds : List FL.D) δ k, lcD vs bd tt fe ds δ ≠ some (.ex k) := by
          intro ds
          induction ds with
          | nil => intro δ k h; cases h
          | cons x r ih =>
            intro δ k h
            rw [lcD] at h
            repeat' split at h
            all_goals first | cases h | exact ih _ _ h
        exact this _ _ _ hlc
      | ok ysA δf =>
        rw [bindM_ok hlc] at e1
        cases e1
        refine ⟨fun i m H => m = ds.length - i ∧ i ≤ ds.length ∧ ∃ G2 δ2 accV accD ys, Same G1 G2 ∧ S (K, T) (upd F D (.lst accV)) σ G2 H δ2 ∧ RepL K G2 accV accD ∧ accD.length ≤ i ∧ lcD vs bd tt fe (ds.drop i) δ2 = some (.ok ys δf) ∧ ysA = accD ++ ys,
          ⟨ds.length, by simp, Nat.zero_le _, G1, δ1, [], [], ysA, Same.refl _, s1.enter hD, .nil, Nat.zero_le _, hlc, rfl⟩, ?_⟩
        rintro i m H2 ⟨rfl, hi, G2, δ2, accV, accD, ys, g2, s2, ra, hla, e2, ey⟩
        by_cases hl : i < ds.length
        · have hd : ds[i]? = some ds[i] := List.getElem?_eq_getElem hl
          rw [List.drop_eq_getElem_cons hl, lcD] at e2
          split at e2
          · rename_i hno
            refine .inr ⟨W.go _ _ σ G2 H2 δ2 i g2 s2 hl, fun H' => ∃ G5 δ5 accV' accD' ys', Same G1 G5 ∧ S (K, T) (upd F D (.lst accV')) σ G5 H' δ5 ∧ RepL K G5 accV' accD' ∧ accD'.length ≤ i + 1 ∧ lcD vs bd tt fe (ds.drop (i + 1)) δ5 = some (.ok ys' δf) ∧ ysA = accD' ++ ys',
              fun H' z => ⟨ds.length - (i + 1), by omega, rfl, hl, z⟩, fun x H3 hy => ?_⟩
            obtain ⟨G3, s3, g3, rx⟩ := W.yld _ _ (wipe σ vs) G2 H2 (wipeD δ2 vs) i x H3 _ g2 (s2.wipes vs) hy hd
            cases hbd : bd ds[i] (wipeD δ2 vs) with
            | none => rw [hbd] at e2; cases e2
            | some δ3 =>
              rw [hbd] at e2
              dsimp only at e2
              refine sg _ (wipe σ vs) G3 H3 _ x _ δ3 s3 rx hbd _ fun σ3 s4 ag => ⟨wipe_agr ag his, ?_⟩
              have g23 : Same G2 G3 := g3
              have agr3 : ∀ j, j ∉ vs → σ3[j]? = σ[j]? := fun j hj => by
                rw [ag.2 j fun z => hj (his j z), wipe_get, if_neg hj]
              have len3 : σ3.length = σ.length := ag.1.trans (wipe_length _ _)
              cases ht : tt δ3 with
              | none => rw [ht] at e2; cases e2
              | some rt =>
                rw [ht] at e2
                cases rt with
                | ex k => cases e2
                | ok b δ4 =>
                  refine st _ σ3 G3 H3 δ3 _ s4 ht _ fun G4 H4 b' s5 g4 rb => ?_
                  have eb : b' = b := rb
                  subst eb
                  cases b' with
                  | false =>
                    rw [if_neg Bool.false_ne_true]
                    dsimp only at e2
                    exact ⟨G4, _, accV, accD, ys, g2.trans (g23.trans g4), s5.unblock s2 (g23.trans g4) agr3 len3 hno, ra.mono (g23.trans g4), by omega, e2, ey⟩
                  | true =>
                    rw [if_pos rfl]
                    dsimp only at e2
                    cases hf : fe δ4 with
                    | none => rw [hf] at e2; cases e2
                    | some rf =>
                      rw [hf] at e2
                      cases rf with
                      | ex k => cases e2
                      | ok y δ5 =>
                        dsimp only at e2
                        refine se _ σ3 G4 H4 δ4 _ s5 hf _ fun G5 H5 v s6 g5 ry => ?_
                        have g25 : Same G2 G5 := g23.trans (g4.trans g5)
                        cases hr : lcD vs bd tt fe (ds.drop (i + 1)) (restD δ2 δ5 vs) with
                        | none => rw [hr] at e2; cases e2
                        | some rr2 =>
                          rw [hr] at e2
                          cases rr2 with
                          | ex k => cases e2
                          | ok ys2 δ6 =>
                            cases e2
                            refine ⟨accV, s6.frm D _ upd_same, by rw [ra.length]; rw [sizeLine_eq]; omega, G5, restD δ2 δ5 vs, accV ++ [v], accD ++ [y], ys2, g2.trans g25, (s6.unblock s2 g25 agr3 len3 hno).relist, (ra.mono g25).append (.cons ry .nil), by rw [List.length_append]; simp; omega, hr, by rw [ey, List.append_assoc]; rfl⟩
          · cases e2
        · have ei : i = ds.length := by omega
          subst ei
          rw [List.drop_length] at e2
          cases e2
          have gd : G2 D = none := s2.dis D _ upd_same
          refine .inl ⟨W.stop _ _ σ G2 H2 _ _ g2 s2 (Nat.le_refl _), ?_⟩
          rw [List.append_nil] at ey
          subst ey
          exact p1 (upd G2 D (.lst accV)) H2 _ (s2.leave fD) (g2.trans (same_upd gd)) (.lst upd_same (ra.mono (same_upd gd)))
  · cases e1
theorem fe_lc {elt tg iter : Expr} {ifs : List Expr} {scope : Scope} (own : List (Str × Nat)) {pos : Pos} {items : M (List D)} {is : List Nat} {bd : D → De → Option De} {tt : M Bool} {fe : M D} (nd : c.N.Nodup) (hi : FI c tg iter items) (ok : blkC c.N c.sc scope own = true)
    (hg : FG (blkSC c scope) tg is bd) (ht : FTs (blkSC c scope) ifs tt) (he : FE (blkSC c scope) elt fe) (his : ∀ i ∈ is, i ∈ own.map (·.2)) (hs : ∀ (env : Env) x, foldedSetIterable iter env x = pure x := by intro _ _; rfl) :
    FE c (.ListComp elt [⟨tg, iter, ifs, 0⟩] scope pos) (lcM (own.map (·.2)) bd tt fe items) := by
  obtain ⟨wi, pi, si⟩ := hi.ex
  obtain ⟨g, pg, sg⟩ := hg.ex
  obtain ⟨t, pt, st⟩ := ht.ex
  obtain ⟨te, pe, se⟩ := he.ex
  exact ⟨_, fun X h => pe_lc h.calm (by rw [h.N]; exact nd) (pi X h) (by rw [h.N, h.sc]; exact blkOk_by ok) (fun s H C cl fp => pg _ (in_blk h s H C cl fp)) (fun s H C cl fp => pt _ (in_blk h s H C cl fp)) (fun s H C cl fp => pe _ (in_blk h s H C cl fp)) (hs _), sp_lc si sg st se his⟩
/-- y = [..] on one line -/
theorem fs_setLc (i : Nat) {y : Str} {py : Pos} {elt tg iter : Expr} {ifs : List Expr} {scope : Scope} (own : List (Str × Nat)) {pos spos : Pos} {items : M (List D)} {is : List Nat} {bd : D → De → Option De} {tt : M Bool} {fe : M D} (nd : c.N.Nodup) (hi : FI c tg iter items) (ok : blkC c.N c.sc scope own = true)
    (hg : FG (blkSC c scope) tg is bd) (ht : FTs (blkSC c scope) ifs tt) (he : FE (blkSC c scope) elt fe) (his : ∀ i ∈ is, i ∈ own.map (·.2))
    (hy : c.N[i]? = some y := by rfl) (hyl : c.sc.names.lookup y = some .local := by rfl)
    (hsw : ∀ env : Env, env.scope = c.sc → swapsWith (.ListComp elt [⟨tg, iter, ifs, 0⟩] scope pos) (some (.Name y py)) spos.line env = pure true)
    (hs : ∀ (env : Env) x, foldedSetIterable iter env x = pure x := by intro _ _; rfl) :
    FS1 c (.Assign [.Name y py] (.ListComp elt [⟨tg, iter, ifs, 0⟩] scope pos) spos) (thenS (lcM (own.map (·.2)) bd tt fe items) fun d δ => some (.nx (δ.set i (.val d)))) := by
  obtain ⟨wi, pi, si⟩ := hi.ex
  obtain ⟨g, pg, sg⟩ := hg.ex
  obtain ⟨t, pt, st⟩ := ht.ex
  obtain ⟨te, pe, se⟩ := he.ex
  refine ⟨tAsg (tLc wi g t te (own.map (·.2))) (gName i), fun X h => ?_, fun F σ G H δ o s e Dn p => ?_⟩
  · exact ps_setLc h.calm (by rw [h.N]; exact nd) (by rw [h.N]; exact hy) (by rw [h.sc]; exact hyl) (hsw _ h.sc) (pi X h) (by rw [h.N, h.sc]; exact blkOk_by ok) (fun s H C cl fp => pg _ (in_blk h s H C cl fp)) (fun s H C cl fp => pt _ (in_blk h s H C cl fp)) (fun s H C cl fp => pe _ (in_blk h s H C cl fp)) (hs _)
  · refine (sp_lc (cl := c.cl) (E := c.E) si sg st se his).stepS s e p fun G1 H1 δ1 v d s1 g1 rx e1 p1 => ?_
    cases e1
    exact p1 _ G1 H1 (s1.store i rx) (Same.refl _)
end
end FL

set_option Elab.async false
set_option linter.all false
set_option maxRecDepth 100000
set_option maxHeartbeats 2000000
/-! FL7: max with a default; the law's dice. -/
namespace FL
open PySem PySem.Spec PyProof.Rows L2
theorem foldl_max : ∀ (n : Int) (ns : List Int), ns.foldl max n = maxL (n :: ns)
  | n, [] => rfl
  | n, m :: r => by
    rw [List.foldl_cons, foldl_max (max n m) r]
    have key : ∀ (l : List Int) (a b : Int), maxL (max a b :: l) = maxL (a :: b :: l) := by
      intro l a b
      apply Int.le_antisymm
      · have := maxL_mem (l := max a b :: l) (by simp)
        rcases List.mem_cons.mp this with h | h
        · rw [h]
          rcases Int.le_total a b with q | q
          · rw [Int.max_eq_right q]; exact maxL_le (by simp)
          · rw [Int.max_eq_left q]; exact maxL_le (by simp)
        · exact maxL_le (by simp [h])
      · have := maxL_mem (l := a :: b :: l) (by simp)
        rcases List.mem_cons.mp this with h | h
        · rw [h]; exact Int.le_trans (Int.le_max_left a b) (maxL_le (by simp))
        · rcases List.mem_cons.mp h with h | h
          · rw [h]; exact Int.le_trans (Int.le_max_right a b) (maxL_le (by simp))
          · exact maxL_le (by simp [h])
    exact key r n m
def rMaxDf (K : PySem.W.Frag) : List V → List V → Hp → VK → Prop := fun xs zs H Q => ∃ (a : Addr) (ns : List Int) (z : V), xs = [.ref a] ∧ SqL K H a (ns.map V.int) ∧ zs = [z] ∧ (ns = [] → Q z H) ∧ (ns ≠ [] → Q (.int (maxL ns)) H)
theorem intsAre_reads {h : Heap} : ∀ {us : List Value} {ns : List Int}, IntsAre us ns → ReadsAll h us (ns.map .int) []
  | _, _, .nil => .nil
  | _, _, .cons n t r => by
    have := ReadsAll.cons (Reads.int (h := h) n t) (intsAre_reads r)
    simpa using this
theorem call_maxDf {X : Cx} (hc : X.calm = true) (hu : X.A.units + 64 < cLine) : CallRK X (.builtin "max") [("default" : Str)] (rMaxDf X.K) := by
  intro pins s σ H xs zs us ws Q I rx rz q
  obtain ⟨a, ns, z, rfl, hs, rfl, q0, q1⟩ := q
  obtain ⟨its, rv, ⟨o, n, ho, hcl, hdi, hda⟩, hz⟩ := I.list hs
  obtain ⟨u, rfl, ru⟩ := Vals.one rx
  obtain ⟨wv, rfl, rw⟩ := Vals.one rz
  cases ru
  have hl : s.heap.IsList a its.toArray := ⟨o, ho, hcl, n, hda⟩
  have hi := Vals.ints rv
  show wpAny _ _ (call (.builtin "max") [.ref a] [(Str.ofString "default", wv)]) _ _ _
  refine PySem.W.max_list_default (xs := ns.map .int) (as := []) (I.ok.hd hc) hl (intsAre_reads hi) ⟨?_, ?_⟩ ?_ ?_ ?_
  · intro x hx y hy
    obtain ⟨i, _, rfl⟩ := List.mem_map.mp hx
    obtain ⟨j, _, rfl⟩ := List.mem_map.mp hy
    rfl
  · intro x hx
    obtain ⟨i, _, rfl⟩ := List.mem_map.mp hx
    intro z; cases z
  · rw [PySem.W.depth_ints]; omega
  · intro e h' tk hk
    have : ns = [] := by simpa using e
    exact ⟨z, H, I.kept hk, rw, q0 this⟩
  · intro y ys i v h' tk bs e hv r hk
    cases ns with
    | nil => cases e
    | cons m ms =>
      rw [List.map_cons] at e
      cases e
      rw [PySem.W.maxD_ints, foldl_max] at r
      cases r
      exact ⟨.int (maxL (m :: ms)), H, I.kept hk, ⟨_, rfl⟩, q1 (by simp)⟩
section
variable {c : SC}
def maxDfM (f g : M D) : M D := bindM f fun d => bindM g fun e => match d with
  | .lst ds => match intsOf ds with
    | some [] => pureM e
    | some (n :: r) => pureM (.int (maxL (n :: r)))
    | none => fun _ => none
  | _ => fun _ => none
theorem fe_maxDf {p pos kp : Pos} {e d : Expr} {f g : M D} (hm : c.mg "max" = none) (ha : FE c e f) (hd : FE c d g) (hg : Gb c "max" := by rfl)
    (hs : ∀ env : Env, starEach [e] env = (false, eval e env) :: starEach [] env := by intro _; rfl)
    (he : ∀ env : Env, backTo pos (starEach [e] env) = (false, eval e env) :: backTo pos (starEach [] env) := by intro _; rfl) (hpl : ∀ env : Env, (backTo pos (starEach [e] env)).any (·.1) = false := by intro _; rfl)
    (hall : ∀ env : Env, (backToKw pos (keywordEach [⟨some "default", d, kp⟩] env)).all (·.1.isSome) = true := by intro _; rfl) (hnone : ∀ env : Env, (backToKw pos (keywordEach [⟨some "default", d, kp⟩] env)).any (·.1.isNone) = false := by intro _; rfl)
    (hks : ∀ env : Env, (backToKw pos (keywordEach [⟨some "default", d, kp⟩] env)).filterMap (·.1) = [("default" : Str)] := by intro _; rfl) :
    FE c (.Call (.Name "max" p) [e] [⟨some "default", d, kp⟩] pos) (maxDfM f g) := by
  obtain ⟨ta, pa, sa⟩ := ha.ex
  obtain ⟨td, pd, sd⟩ := hd.ex
  refine ⟨tCKw (rMaxDf c.K) (tCons ta tNil) (tCons td tNil), fun X h => ?_, fun F σ G H δ r s e Q p => ?_⟩
  · have q := call_maxDf (X := X) h.calm h.units
    rw [h.K] at q
    exact pe_callBK q (show X.env.scope.names.lookup _ = _ by rw [h.sc]; exact hg) (by rw [h.mg]; exact hm) (by first | exact PyProof.Rows.boot_max | decide +kernel) (pa_cons (pa X h) pa_nil (hs _)) (pk_cons (pd X h) pk_nil) (by decide) (by decide) (he _) (hpl _) (hall _) (hnone _) (hks _)
  · refine sa.step s e p fun G1 H1 δ1 x d s1 g1 rx e1 p1 => ?_
    refine sd.step s1 e1 p1 fun G2 H2 δ2 y e' s2 g2 ry e2 p2 => ?_
    cases d <;> try (cases e2)
    rename_i ds
    dsimp only at e2
    have rx2 := rx.mono g2
    cases rx2 with
    | lst h1 h2 =>
      cases hi : intsOf ds with
      | none => rw [hi] at e2; cases e2
      | some ns =>
        rw [hi] at e2
        rw [intsOf_some hi] at h2
        have ev := h2.ints'
        subst ev
        refine ⟨_, ns, y, rfl, .of (s2.sub _ _ h1), rfl, fun hn => ?_, fun hn => ?_⟩
        · subst hn
          cases e2
          exact p2 G2 H2 _ s2 (Same.refl _) ry
        · cases ns with
          | nil => exact absurd rfl hn
          | cons n r => cases e2; exact p2 G2 H2 _ s2 (Same.refl _) (.int _)
end

/-! ### the law's dice -/
def rollF (x y z m : Int) : Int × Int × Int × Int :=
  if z = 2 ∨ (z = 1 ∧ 0 < x) then (x % m, x / m, y, z)
  else ((((x * 48271 + y * 69621 + 11) % 2147483647) / 7 + (x * 48271 + y * 69621 + 11) % 2147483647) % m, (x * 48271 + y * 69621 + 11) % 2147483647, y + 1, 0)
theorem rollF_lo (x y z m : Int) (h : 0 < m) : 0 ≤ (rollF x y z m).1 := by
  unfold rollF
  split
  · exact Int.emod_nonneg _ (by omega)
  · exact Int.emod_nonneg _ (by omega)
theorem rollF_hi (x y z m : Int) (h : 0 < m) : (rollF x y z m).1 < m := by
  unfold rollF
  split
  · exact Int.emod_lt_of_pos _ h
  · exact Int.emod_lt_of_pos _ h
def ints3 (x y z : Int) : HO := .lst [.int x, .int y, .int z]
def spRoll : Sp := fun vs H Q _ => ∃ (p : Addr) (x y z m : Int), vs = [.ref p, .int m] ∧ H p = some (ints3 x y z) ∧ 0 < m ∧ m < 1073741824 ∧
  Q (.int (rollF x y z m).1) (upd H p (ints3 (rollF x y z m).2.1 (rollF x y z m).2.2.1 (rollF x y z m).2.2.2))
end FL

set_option Elab.async false
set_option linter.all false
set_option maxRecDepth 100000
set_option maxHeartbeats 2000000
/-! FL8: the law's own words: a roll of the dice; a lambda told. -/
namespace FL
open PySem PySem.Spec PyProof.Rows L2
/-! ### _law_roll(dice, e) -/
structure RollD (P : Program) (w : World) (K : PySem.W.Frag) (mg : Str → Option Value) (base : Heap) : Prop where
  ex : ∃ (a : Addr) (fd : FuncData), mg "_law_roll" = some (.ref a) ∧ PySem.W.keepIn K (.ref a) = true ∧ Binds K fd ["dice", "many"] [] ∧ FnOk P w K mg base (L2.CX P w) 1 a fd ["dice", "many"] spRoll
def rollK (i : Nat) (m : D) : M D := fun δ => match m, ownAt δ i with
  | .int m, some [.int x, .int y, .int z] => if 0 < m ∧ m < 1073741824 then some (.ok (.int (rollF x y z m).1) (δ.set i (.own [.int (rollF x y z m).2.1, .int (rollF x y z m).2.2.1, .int (rollF x y z m).2.2.2]))) else none
  | _, _ => none
def rollM (i : Nat) (f : M D) : M D := fun δ => match ownAt δ i with
  | none => none
  | some _ => bindM f (rollK i) δ
section
variable {c : SC}
theorem fe_roll (i : Nat) {x : Str} {e : Expr} {f : M D} {p p1 pos : Pos} (Rd : RollD c.P c.w c.K c.mg c.base) (he : FE c e f) (hk : Nat.ble 1 c.k = true := by rfl) (hN : c.N[i]? = some x := by rfl) (hv : Vis c.sc x := by first | exact Or.inl rfl | exact Or.inr (Or.inl rfl) | exact Or.inr (Or.inr rfl))
    (hg : Gb c "_law_roll" := by rfl) (hd : (x == ("__debug__" : Str)) = false := by decide) (hcd : (x == ("__classdict__" : Str)) = false := by decide)
    (h1 : ∀ env : Env, starEach [.Name x p1, e] env = (false, eval (.Name x p1) env) :: starEach [e] env := by intro _; rfl) (h2 : ∀ env : Env, starEach [e] env = (false, eval e env) :: starEach [] env := by intro _; rfl)
    (hpl : ∀ env : Env, (backTo pos (starEach [e] env)).any (·.1) = false := by intro _; rfl) :
    FE c (.Call (.Name "_law_roll" p) [.Name x p1, e] [] pos) (rollM i f) := by
  obtain ⟨t, pa, sa⟩ := he.ex
  obtain ⟨a, fd, q1, q2, q3, q4⟩ := Rd.ex
  refine ⟨tCallS spRoll (WE fun cls d _ H => c.E cls d H) (tCons (tVar i) (tCons t tNil)), fun X h => ?_, fun F σ G H δ r s e Q p => ?_⟩
  · have q4' : FnOk X.prog X.w X.K X.mg X.base (L2.CX X.prog X.w) 1 a fd ["dice", "many"] spRoll := by rw [h.P, h.w, h.K, h.mg, h.base]; exact q4
    exact pe_callS q4' (h.room.mono (Nat.le_of_ble_eq_true hk)) (show X.env.scope.names.lookup _ = _ by rw [h.sc]; exact hg) (by rw [h.mg]; exact q1) (by rw [h.K]; exact q2) (by rw [h.K]; exact q3) (fun σ => passAt h.tk σ) (pa_cons (pe_var (i := i) (x := x) (pos := p1) (by rw [h.N]; exact hN) (by rw [h.sc]; exact hv) hd hcd) (pa_cons (pa X h) pa_nil (h2 _)) (h1 _)) (by decide) (h1 _) (hpl _)
  · unfold rollM at e
    cases h0 : ownAt δ i with
    | none => rw [h0] at e; cases e
    | some xs0 =>
      rw [h0] at e
      dsimp only at e
      obtain ⟨q, vs, e1, e2, e3, e4, e5⟩ := s.own i xs0 (ownAt_some h0)
      refine ⟨_, e1, ?_⟩
      refine sa.step s e p fun G1 H1 δ1 v d s1 g1 rx e1' p1 => ?_
      unfold rollK at e1'
      split at e1'
      · rename_i m x y z ho
        split at e1'
        · rename_i hm
          cases e1'
          cases rx
          obtain ⟨q', ws, f1, f2, f3, f4, f5⟩ := s1.own i _ (ownAt_some ho)
          rw [e1] at f1
          cases f1
          have ew : ws = [V.int x, V.int y, V.int z] := RepL.ints' (ns := [x, y, z]) f3
          subst ew
          refine ⟨q, x, y, z, m, rfl, f2, hm.1, hm.2, ?_⟩
          exact p1 G1 _ _ (s1.setOwn (ownAt_some ho) e1 (RepL.ints [(rollF x y z m).2.1, (rollF x y z m).2.2.1, (rollF x y z m).2.2.2])) (Same.refl _) (.int _)
        · cases e1'
      · cases e1'

/-! ### _law_told(lambda: e) -/
def hideOwn (δ : De) : De := δ.map fun
  | .own _ => .un
  | x => x
theorem S.hide {K : PySem.W.Frag} {T : List (Addr × PySem.Str)} {F G H : Hp} {σ : L2.St} {δ : De} (s : S (K, T) F σ G H δ) : S (K, []) (besides G H) σ G H (hideOwn δ) := by
  have bs : ∀ b o, besides G H b = some o → G b = none ∧ H b = some o := fun b o e => by
    unfold besides at e
    split at e
    · cases e
    · rename_i q; exact ⟨q, e⟩
  have no : ∀ (i : Nat) xs, (hideOwn δ)[i]? ≠ some (.own xs) := fun i xs e => by
    unfold hideOwn at e
    rw [List.getElem?_map] at e
    cases h : δ[i]? with
    | none => rw [h] at e; cases e
    | some y => rw [h] at e; cases y <;> cases e
  refine ⟨s.sub, fun b o e => (bs b o e).2, fun b o e => (bs b o e).1, by unfold hideOwn; rw [List.length_map]; exact s.len, fun i d e => ?_, fun i xs e => absurd e (no i xs), fun i j xs ys _ e => absurd e (no i xs), fun x hx => absurd (show x ∈ ([] : List (Addr × PySem.Str)) from hx) (by simp), fun x hx => absurd (show x ∈ ([] : List (Addr × PySem.Str)) from hx) (by simp), s.ntg, .inl rfl⟩
  unfold hideOwn at e
  rw [List.getElem?_map] at e
  cases h : δ[i]? with
  | none => rw [h] at e; cases e
  | some y =>
    rw [h] at e
    cases y with
    | un => cases e
    | own xs => cases e
    | val d' => cases e; exact s.val i d h
theorem S.extN {K : PySem.W.Frag} {T : List (Addr × PySem.Str)} {F G H H1 : Hp} {σ : L2.St} {δ : De} (s : S (K, T) F σ G H δ) (hT : T ≠ []) (e : LamX.ExtN H H1) (t : LamX.Tabs T H1) : S (K, T) F σ G H1 δ := by
  have nf : ∀ b ps, F b ≠ some (.tbl ps) := s.ntf.resolve_left hT
  refine ⟨fun b o q => e b o (s.sub _ _ q) fun ps z => s.ntg b ps (by rw [q, z]), fun b o q => e b o (s.frm _ _ q) fun ps z => nf b ps (by rw [q, z]), s.dis, s.len, s.val, fun i xs q => ?_, s.inj, t, s.tnf, s.ntg, s.ntf⟩
  obtain ⟨p, vs, h1, h2, h3, h4, h5⟩ := s.own i xs q
  exact ⟨p, vs, h1, e _ _ h2 fun ps z => (by cases z), h3, h4, h5⟩
/-- what the clauses make of an exception -/
def Ech (K : PySem.W.Frag) (Q : VK) : List (Addr × Str) → XK
  | [] => fun _ _ _ => False
  | (C, n) :: r => fun cls d H' => ∃ b, PySem.W.exmOne K cls (.ref C) = some b ∧ (b = true → Q (.str n) H') ∧ (b = false → Ech K Q r cls d H')
def TTm (K : PySem.W.Frag) (l : List (Addr × Str)) : (XK → Hp → VK → Prop) → Hp → VK → Prop := fun tl H Q => tl (Ech K Q l) H Q
inductive HdT (mg : Str → Option Value) (sg : Scope) : List ExceptHandler → List (Addr × Str) → Prop
  | nil : HdT mg sg [] []
  | cons {e ret : Str} {C : Addr} {j : Nat} {p4 p5 p6 p7 : Pos} {hds : List ExceptHandler} {l : List (Addr × Str)} (h1 : sg.names.lookup e = some .globalImplicit) (h2 : mg e = some (.ref C)) (h3 : (e == ("__debug__" : Str)) = false) (r : HdT mg sg hds l) :
      HdT mg sg (.ExceptHandler (some (.Name e p4)) none [.Return (some (.Constant (.str ret) j p5)) p6] p7 :: hds) ((C, ret) :: l)
def tsOf (l : List (Addr × Str)) : List (Value × (Addr → Value → Option Addr → TS)) := l.map fun p => (.ref p.1, fun _ _ _ => tRet (tC (.str p.2)))
theorem hds_ok {X : Cx} : ∀ {hds : List ExceptHandler} {l : List (Addr × Str)}, HdT X.mg X.env.scope hds l → HdsOk X hds (tsOf l)
  | _, _, .nil => .nil
  | _, _, .cons h1 h2 h3 r => .cons ⟨h1, h3, .inl h2⟩ (fun a oe cls d pn _ _ => pss_one (ps_ret pe_str)) (hds_ok r)
theorem ech_many {K : PySem.W.Frag} {Wout : WX} {Dn : Ends} {cls : Value} {d : Option Addr} {σ : L2.St} {H : Hp} : ∀ {l : List (Addr × Str)}, Ech K Dn.rt l cls d H → wMany K Wout Dn (tsOf l) cls d σ H
  | [], h => h.elim
  | (C, n) :: r, ⟨b, e1, e2, e3⟩ => ⟨b, e1, fun hb a _ => e2 hb, fun hb => ech_many (e3 hb)⟩
theorem gives_many {X : Cx} {Ng : List Str} {x a q : Str} {sg : Scope} {g : Addr} {cdg : Value} {p1 p2 p3 p8 : Pos} {h₀ : ExceptHandler} {hds : List ExceptHandler} {l : List (Addr × Str)} (hh : HdT X.mg sg (h₀ :: hds) l) (h0 : ∀ f : Addr, (L2.start Ng [V.ref f])[0]? = some (some (V.ref f))) :
    LamX.GivesTo X Ng x sg g cdg [.Try [.Return (some (.Call (.Name a p1) [] [] p2)) p3] (h₀ :: hds) [] [] p8] a q (TTm X.K l) := by
  intro f c' s H Q tl act hc h
  refine ⟨_, pss_one (ps_try_many (X := (cxOf C8.CX0 X.prog X.w X.K X.mg X.base Ng x sg g cdg X.A X.stack s H C8.E0).nox) (l := tsOf l) (Wout := fun _ _ _ _ => False)
      (tb := fun W D σ H => ∃ Ec : XK, (∀ cls d σ' H', Ec cls d H' → W cls d σ' H') ∧ σ[0]? = some (some (.ref f)) ∧ H c' = some (LamX.CodeO c' q) ∧ tl Ec H D.rt)
      rfl rfl L2.takes0 (fun W pn xe tk _ => ?_) (hds_ok hh)), ?_⟩
  · refine ⟨fun pins s' σ H' D I h' => ?_⟩
    obtain ⟨Ec, hW, h1, h2, h3⟩ := h'
    have hp := act W pn xe Ec p1 p2 tk hW
    have hq := pss_one (ps_ret (pos := p3) hp)
    exact hq.run pins s' σ H' D I ⟨h1, h2, h3⟩
  · exact ⟨Ech X.K Q l, fun cls d σ' H' z => ech_many (Dn := { nx := fun _ H' => Q .non H', rt := Q }) z, h0 f, hc, h⟩
/-- the def _law_told, and how its clauses tell the classes apart; nl: the classes' numbers and words -/
structure ToldD (P : Program) (w : World) (K : PySem.W.Frag) (mg : Str → Option Value) (base : Heap) (cl : Nat → Addr) (nl : List (Nat × Str)) : Prop where
  ex : ∃ (g : Addr) (sg : Scope) (Ng : List Str) (pg : Arguments) (dV kV doc pm cdv ct oc : Value) (an od : Option Addr) (osl : Array (Option Value)) (p1 p2 p3 p8 : Pos) (h₀ : ExceptHandler) (hds : List ExceptHandler),
    mg "_law_told" = some (.ref g) ∧ PySem.W.keepIn K (.ref g) = true ∧ K.lookup g = some ⟨oc, od, .func (PySem.W.fnOf "_law_told" "_law_told" pg [.Try [.Return (some (.Call (.Name "what" p1) [] [] p2)) p3] (h₀ :: hds) [] [] p8] sg dV kV doc pm an cdv ct), osl⟩ ∧
      PySem.W.codeIn K cdv "_law_told" = true ∧ L2.Binds K (PySem.W.fnOf "_law_told" "_law_told" pg [.Try [.Return (some (.Call (.Name "what" p1) [] [] p2)) p3] (h₀ :: hds) [] [] p8] sg dV kV doc pm an cdv ct) ["what"] [] ∧
      FnScope Ng ["what"] sg ∧ Ng[0]? = some ("what" : Str) ∧ Vis sg "what" ∧ HdT mg sg (h₀ :: hds) (nl.map fun p => (cl p.1, p.2)) ∧ (∀ f : Addr, (L2.start Ng [V.ref f])[0]? = some (some (V.ref f)))
  exm : ∀ i j, i ∈ nl.map (·.1) → j ∈ nl.map (·.1) → PySem.W.exmOne K (.ref (cl i)) (.ref (cl j)) = some (i == j)
def lamSC (c : SC) (scope : Scope) (k : Nat) (E : XK) : SC := { c with sc := scope, k := k, E := E, st := fun _ => false, T := [], code := .none, qual := "" }
theorem in_lam {c : SC} {X : Cx} {scope : Scope} {k : Nat} {E : XK} (h : In c X) (A : Around) (outer : List Env) (s : Shared) (H : Hp) (f c' : Addr) (hr : Room k (A.deeper (LamX.lamEnv X scope s.heap.objs.size f c'))) : In (lamSC c scope k E) (LamX.lamCx X A outer s H E scope f c') where
  P := h.P
  w := h.w
  K := h.K
  mg := h.mg
  base := h.base
  N := h.N
  sc := rfl
  calm := rfl
  room := hr
  tk := takes_of rfl rfl rfl rfl
  fn := fun x hx => by cases hx
  po := passes_of rfl
  code := .inl rfl
def toldName (nl : List (Nat × Str)) (k : Nat) : Option Str := (nl.find? fun p => p.1 == k).map (·.2)
def toldM (nl : List (Nat × Str)) (f : M D) : M D := fun δ => match f (hideOwn δ) with
  | none => none
  | some (.ok d _) => some (.ok d δ)
  | some (.ex k) => (toldName nl k).map fun n => .ok (.str n) δ
theorem ech_of {K : PySem.W.Frag} {Q : VK} {cl : Nat → Addr} {k : Nat} {d : Option Addr} {H : Hp} : ∀ {nl : List (Nat × Str)} {n : Str}, toldName nl k = some n → (∀ j ∈ nl.map (·.1), PySem.W.exmOne K (.ref (cl k)) (.ref (cl j)) = some (k == j)) → Q (.str n) H → Ech K Q (nl.map fun p => (cl p.1, p.2)) (.ref (cl k)) d H
  | [], n, e, _, _ => by cases e
  | (j, m) :: r, n, e, hx, q => by
    refine ⟨k == j, hx j (by simp), fun hb => ?_, fun hb => ?_⟩
    · have : k = j := beq_iff_eq.mp hb
      subst this
      unfold toldName at e
      rw [List.find?_cons_of_pos (by simp)] at e
      cases e
      exact q
    · refine ech_of (n := n) ?_ (fun i hi => hx i (by simp only [List.map_cons, List.mem_cons]; exact .inr hi)) q
      unfold toldName at e ⊢
      rw [List.find?_cons_of_neg] at e
      · exact e
      · intro z
        have : j = k := by simpa using z
        rw [this] at hb
        simp at hb
theorem toldName_mem {nl : List (Nat × Str)} {k : Nat} {n : Str} (e : toldName nl k = some n) : k ∈ nl.map (·.1) := by
  unfold toldName at e
  cases h : nl.find? fun p => p.1 == k with
  | none => rw [h] at e; cases e
  | some p =>
    have h1 := List.find?_some h
    have h2 := List.mem_of_find?_eq_some h
    have : p.1 = k := by simpa using h1
    exact List.mem_map.mpr ⟨p, h2, this⟩
/-- where lambdas are made: the maker's code object and its table -/
structure LamD (c : SC) (C P : Addr) : Prop where
  code : c.code = .ref C
  T : c.T = [(P, c.qual ++ "<lambda>")]
  tb : LamX.TabB c.base c.mg C P
theorem fe_told (k : Nat) {C Pt : Addr} {nl : List (Nat × Str)} {params : Arguments} {body : Expr} {scope : Scope} {f : M D} {p lpos pos : Pos} (Td : ToldD c.P c.w c.K c.mg c.base c.cl nl) (L : LamD c C Pt) (hb : ∀ E, FE (lamSC c scope k E) body f)
    (hk : Nat.ble (k + 2) c.k = true := by rfl) (hL : LamX.lamSB c.sc scope = true := by kernel_rfl) (hg : Gb c "_law_told" := by rfl) (hdef : ∀ env : Env, defaultsOf params env = ([], []) := by intro _; rfl)
    (hbind : ∀ (q : Str) (cl : List (Str × Addr)) (pm cv ctv : Value), bindArgs (PySem.W.kla_fn "<lambda>" q params body scope cl pm cv ctv) ⟨[], []⟩ = pure [] := by intros; rfl) :
    FE c (.Call (.Name "_law_told" p) [.Lambda params body scope lpos] [] pos) (toldM nl f) := by
  obtain ⟨g, sg, Ng, pg, dV, kV, doc, pm, cdv, ct, oc, an, od, osl, p1, p2, p3, p8, h₀, hds, q1, q2, q3, q4, q5, q6, q7, q8, q9, q10⟩ := Td.ex
  obtain ⟨t, ht⟩ : ∃ t : XK → TE, ∀ E, (∀ X, In (lamSC c scope k E) X → PE X body (t E)) ∧ Sp2 (lamSC c scope k E).κ c.cl E (Rep c.K) (t E) f := ⟨fun E => Classical.choose (hb E).ex, fun E => Classical.choose_spec (hb E).ex⟩
  refine ⟨LamX.tLam c.T (TTm c.K (nl.map fun p => (c.cl p.1, p.2))) t, fun X h => ?_, fun F σ G H δ r s e Q p => ?_⟩
  · have hT : c.T ≠ [] := by rw [L.T]; simp
    obtain ⟨hc1, hc2⟩ := h.code.resolve_left hT
    have hG : LamX.GivesTo X Ng "_law_told" sg g cdv [.Try [.Return (some (.Call (.Name "what" p1) [] [] p2)) p3] (h₀ :: hds) [] [] p8] "what" (X.env.qual ++ "<lambda>") (TTm X.K (nl.map fun p => (c.cl p.1, p.2))) := gives_many (by rw [h.mg]; exact q9) q10
    rw [h.K] at hG
    exact LamX.pe_lamcall (k := k) (c := C) (P := Pt) (show X.env.scope.names.lookup _ = _ by rw [h.sc]; exact hg) (by rw [h.mg]; exact q1) (by rw [h.K]; exact q2) (by rw [h.K]; exact q3) (by rw [h.K]; exact q4) (by rw [h.K]; exact q5) q6 q7 q8 hG
      (by rw [h.base, h.mg]; exact L.tb) (by rw [hc1]; exact L.code) (by rw [hc2, L.T]; simp) (fun x hx _ => by rw [L.T] at hx; rw [hc2]; simp only [List.mem_singleton] at hx; rw [hx]) (h.room.mono (Nat.le_of_ble_eq_true hk)) (LamX.lamS_by (by rw [h.sc]; exact hL)) (hdef _) hbind
      (fun A outer s H E f c' hr => (ht E).1 _ (in_lam h A outer s H f c' hr))
  · have hT : c.T ≠ [] := by rw [L.T]; simp
    refine ⟨s.tab, fun H1 eN T1 => ?_⟩
    have s1 := s.extN hT eN T1
    have s2 := s1.hide
    unfold toldM at e
    cases hf : f (hideOwn δ) with
    | none => rw [hf] at e; cases e
    | some rr =>
      rw [hf] at e
      have bs : ∀ b o, besides G H1 b = some o → G b = none ∧ H1 b = some o := fun b o e => by
        unfold besides at e
        split at e
        · cases e
        · rename_i q; exact ⟨q, e⟩
      show t (Ech c.K Q (nl.map fun p => (c.cl p.1, p.2))) σ H1 Q
      refine (ht (Ech c.K Q (nl.map fun p => (c.cl p.1, p.2)))).2 _ σ G H1 _ rr s2 hf Q ?_
      cases rr with
      | ok d δ' =>
        cases e
        exact fun G' H' v s' g' rv => p G' H' v (s1.after g' s'.sub s'.frm s'.dis s'.ntg) g' rv
      | ex n =>
        dsimp only at e
        cases hn : toldName nl n with
        | none => rw [hn] at e; cases e
        | some m =>
          rw [hn] at e
          cases e
          intro G' H' g' h' f'
          refine ech_of hn (fun j hj => Td.exm n j (toldName_mem hn) hj) ?_
          exact p G H' _ (s1.after (Same.refl _) (g'.trans h') f' (fun b o q => (bs b o q).1) s1.ntg) (Same.refl _) (.str _)
end
end FL

set_option Elab.async false
set_option linter.all false
set_option maxRecDepth 100000
set_option maxHeartbeats 2000000
/-! FL9: the law's rounds, and the law. -/
namespace FL
open PySem PySem.Spec PyProof.Rows L2
/-- _law_rounds(script, 1): a new list of one new row of three ints -/
def spRounds (K : PySem.W.Frag) : Sp := fun vs H Q _ => ∃ (a : Addr) (ns : List Int), vs = [.ref a, .int 1] ∧ SqL K H a (ns.map V.int) ∧
  ∀ (H' : Hp) (R p : Addr) (x y z : Int), Same H H' → H R = none → H p = none → H' R = some (.lst [.ref p]) → H' p = some (ints3 x y z) → Q (.ref R) H'
theorem SqL.len {K : PySem.W.Frag} {H : Hp} {a : Addr} {xs : List V} (h : SqL K H a xs) : True := trivial
/-- the rounds' def by its last statements -/
theorem ok_rounds {P : Program} {w : World} {K : PySem.W.Frag} {mg : Str → Option Value} {base : Heap} {cl : Nat → Addr} {a : Addr} {fd : FuncData} {st : Stmt} {N : List Str} {k : Nat} {rest : List Stmt} {rf : Fo} {q1 q2 q3 q4 q5 q6 : Pos}
    (F : Fun K "_law_rounds" "_law_rounds" st a fd) (Sc : FnScope N ["script", "most"] (defScope st)) (hN : N = (["script", "most", "cells", "cell"] : List Str)) (hc : Loc (defScope st) "cells")
    (hst : defBody st = .Assign [.Name "cells" q1] (.Subscript (.Name "script" q2) (.Slice none (some (.Name "most" q3)) none q4) q5) q6 :: rest)
    (body : ∀ E : XK, FS ⟨P, w, K, mg, base, N, defScope st, k, cl, E, fun _ => true, [], .none, ""⟩ rest rf)
    (hrf : ∀ ns : List Int, ∃ x y z, rf [.un, .val (.int 1), .val (.lst ((ns.take 1).map D.int)), .un] = some (.rt (.lst [.lst [.int x, .int y, .int z]]))) :
    FnOk P w K mg base (L2.CX P w) (k + 1) a fd ["script", "most"] (spRounds K) := by
  subst hN
  refine F.okX Sc (fun vs H Q E h => ?_) (fun cdv A outer s H vs Q E hr h => ?_)
  · obtain ⟨a, ns, rfl, _⟩ := h
    rfl
  · obtain ⟨t, pt, sp⟩ := (body E).ex
    have hin : In ⟨P, w, K, mg, base, ["script", "most", "cells", "cell"], defScope st, k, cl, E, fun _ => true, [], .none, ""⟩ (cxOf (L2.CX P w) P w K mg base ["script", "most", "cells", "cell"] "_law_rounds" (defScope st) a cdv A outer s H E) := ⟨rfl, rfl, rfl, rfl, rfl, rfl, rfl, rfl, hr, takes_of rfl rfl rfl rfl, fun _ _ => Or.inl rfl, passes_of rfl, Or.inl rfl⟩
    rw [hst]
    have v0 : Vis (defScope st) "script" := (Sc.par "script" (by simp)).elim .inl fun z => .inr (.inl z)
    have v1 : Vis (defScope st) "most" := (Sc.par "most" (by simp)).elim .inl fun z => .inr (.inl z)
    refine ⟨_, pss_cons (ps_set (i := 2) Sc.nd rfl hc (pe_slice sl_list (pe_var (i := 0) rfl v0) po_none (po_some (pe_var (i := 1) rfl v1))) (by rfl) (Or.inl rfl)) (pt _ hin), ?_⟩
    obtain ⟨b, ns, rfl, hs, q⟩ := h
    refine ⟨_, rfl, _, rfl, 1, rfl, b, _, rfl, hs, fun L hL => ?_⟩
    obtain ⟨x, y, z, hxyz⟩ := hrf ns
    have cut : cutV (ns.map V.int) none (some 1) = (ns.take 1).map V.int := by
      unfold cutV
      rw [HT.sIx_none]
      show (List.drop 0 (ns.map V.int)).take (HT.sIx _ _ (some ((1 : Nat) : Int)) - 0) = _
      rw [HT.sIx_nat, List.drop_zero, Nat.sub_zero, List.map_take, List.length_map]
      cases ns <;> simp
    rw [cut]
    -- from here by values
    have s0 : S (K, []) H [some (.ref b), some (.int 1), some (.ref L), none] (upd (fun _ => none) L (.lst ((ns.take 1).map V.int))) (upd H L (.lst ((ns.take 1).map V.int))) [.un, .val (.int 1), .val (.lst ((ns.take 1).map D.int)), .un] := by
      refine ⟨fun c o e => ?_, same_upd hL, fun c o e => ?_, rfl, fun i d e => ?_, fun i xs e => ?_, fun i j xs ys _ e => ?_, fun x hx => absurd (show x ∈ ([] : List (Addr × PySem.Str)) from hx) (by simp), fun x hx => absurd (show x ∈ ([] : List (Addr × PySem.Str)) from hx) (by simp), fun c ps e => ?_, .inl rfl⟩
      · by_cases hb : c = L
        · subst hb; rw [upd_same] at e ⊢; exact e
        · rw [upd_ne hb] at e; cases e
      · rw [upd_ne (ne_of_none e hL)]
      · match i, e with
        | 0, e => cases e
        | 1, e => cases e; exact ⟨_, rfl, .int 1⟩
        | 2, e => cases e; exact ⟨_, rfl, .lst upd_same (RepL.ints _)⟩
        | 3, e => cases e
        | n + 4, e => simp at e
      · match i, e with
        | 0, e => cases e
        | 1, e => cases e
        | 2, e => cases e
        | 3, e => cases e
        | n + 4, e => simp at e
      · match i, e with
        | 0, e => cases e
        | 1, e => cases e
        | 2, e => cases e
        | 3, e => cases e
        | n + 4, e => simp at e
      · by_cases hb : c = L
        · subst hb; rw [upd_same] at e; cases e
        · rw [upd_ne hb] at e; cases e
    refine sp H _ _ _ _ _ s0 hxyz _ fun σ' G' H' δ' v s' g' rv => ?_
    cases rv with
    | lst h1 h2 =>
      rename_i R xs
      cases h2 with
      | cons ha hb =>
        cases hb
        cases ha with
        | lst h3 h4 =>
          rename_i p ws
          have ew : ws = [V.int x, V.int y, V.int z] := RepL.ints' (ns := [x, y, z]) h4
          subst ew
          have fr : ∀ c o, G' c = some o → H c = none := fun c o e => by
            cases hh : H c with
            | none => rfl
            | some o' => have := s'.dis _ _ hh; rw [e] at this; cases this
          exact q H' R p x y z (fun c o e => s'.frm _ _ e) (fr _ _ h1) (fr _ _ h3) (s'.sub _ _ h1) (s'.sub _ _ h3)
/-- the law's promise -/
def spLaw (K : PySem.W.Frag) (T : List (Addr × Str)) : Sp := fun vs H Q _ => ∃ (a : Addr) (ns : List Int), vs = [.ref a] ∧ SqL K H a (ns.map V.int) ∧ (∀ p ∈ T, H p.1 = some (.tbl #[])) ∧ ∀ H', Q (.bl true) H'
def lawD (n i : Nat) (x y z : Int) : De := (List.replicate n Sl.un).set i (.own [.int x, .int y, .int z])
theorem law_ok {P : Program} {w : World} {K : PySem.W.Frag} {mg : Str → Option Value} {base : Heap} {cl : Nat → Addr} {fa fr : Addr} {fdr : FuncData} {params : Arguments} {sc : Scope} {dV kV doc pm cdv ct oc : Value} {an od : Option Addr} {osl : Array (Option Value)} {N : List Str} {k i : Nat} {T : List (Addr × Str)}
    {body rest : List Stmt} {bf rf : Fo} {p1 p2 p3 p4 p5 p6 : Pos} {jj : Nat}
    (lk : K.lookup fa = some ⟨oc, od, .func (PySem.W.fnOf "law" "law" params (.For (.Name "dice" p1) (.Call (.Name "_law_rounds" p2) [.Name "script" p3, .Constant (.int 1) jj p4] [] p5) body [] p6 :: rest) sc dV kV doc pm an cdv ct), osl⟩) (hcd : PySem.W.codeIn K cdv "law" = true)
    (Sc : FnScope N ["script"] sc) (hd : N[i]? = some ("dice" : Str)) (hd0 : i ≠ 0) (hdl : Loc sc "dice") (hv0 : N[0]? = some ("script" : Str))
    (hm : mg "_law_rounds" = some (.ref fr)) (hkp : PySem.W.keepIn K (.ref fr) = true) (hbr : Binds K fdr ["script", "most"] []) (hR : FnOk P w K mg base (L2.CX P w) k fr fdr ["script", "most"] (spRounds K)) (hgr : sc.names.lookup ("_law_rounds" : Str) = some .globalImplicit)
    (hb : ∀ E : XK, FS ⟨P, w, K, mg, base, N, sc, k, cl, E, fun _ => true, T, cdv, ("law" : Str) ++ (".<locals>." : Str)⟩ body bf) (hr : ∀ E : XK, FS ⟨P, w, K, mg, base, N, sc, k, cl, E, fun _ => true, T, cdv, ("law" : Str) ++ (".<locals>." : Str)⟩ rest rf)
    (fin : ∀ x y z : Int, ∃ δ', bf (lawD N.length i x y z) = some (.nx δ') ∧ rf δ' = some (.rt (.bl true))) :
    FnOk P w K mg base (L2.CX P w) (k + 1) fa (PySem.W.fnOf "law" "law" params (.For (.Name "dice" p1) (.Call (.Name "_law_rounds" p2) [.Name "script" p3, .Constant (.int 1) jj p4] [] p5) body [] p6 :: rest) sc dV kV doc pm an cdv ct) ["script"] (spLaw K T) := by
  refine fn_of lk hcd Sc (fun vs H Q E h => ?_) fun A outer s H vs Q E hrm h => ?_
  · obtain ⟨a, ns, rfl, _⟩ := h
    rfl
  · obtain ⟨tb, pb, sb⟩ := (hb E).ex
    obtain ⟨tr, pr, sr⟩ := (hr E).ex
    have hin : In ⟨P, w, K, mg, base, N, sc, k, cl, E, fun _ => true, T, cdv, ("law" : Str) ++ (".<locals>." : Str)⟩ (cxOf (L2.CX P w) P w K mg base N "law" sc fa cdv A outer s H E) := ⟨rfl, rfl, rfl, rfl, rfl, rfl, rfl, rfl, hrm, takes_of rfl rfl rfl rfl, fun _ _ => Or.inl rfl, passes_of rfl, Or.inr ⟨rfl, rfl⟩⟩
    have v0 : Vis sc "script" := (Sc.par "script" (by simp)).elim .inl fun z => .inr (.inl z)
    refine ⟨_, pss_cons (ps_for (passes_of rfl) rfl (pi_list (pe_callS hR hrm hgr hm hkp hbr (fun σ => passAt (W := fun cls d _ H => E cls d H) (takes_of rfl rfl rfl rfl) σ) (pa_cons (pe_var (i := 0) hv0 v0) (pa_cons pe_int pa_nil)))) (pg_name (i := i) Sc.nd hd hdl (Or.inl rfl)) (pb _ hin)) (pr _ hin), ?_⟩
    obtain ⟨a, ns, rfl, hs, hT, q⟩ := h
    have hN0 : 0 < N.length := by
      obtain ⟨z, _⟩ := List.getElem?_eq_some_iff.mp hv0
      exact z
    have st0 : (L2.start N [V.ref a])[0]? = some (some (V.ref a)) := rfl
    have stl : (L2.start N [V.ref a]).length = N.length := start_len (by show 1 ≤ N.length; exact hN0)
    refine ⟨_, st0, a, ns, rfl, hs, fun H1 R p x y z sm nR np hR1 hp1 => ?_⟩
    have nRp : R ≠ p := ne_of hR1 hp1 (by intro e; cases e)
    refine ⟨R, rfl, ⟨_, .inl (.inl hR1)⟩, ?_⟩
    obtain ⟨δ', hbf, hrf⟩ := fin x y z
    have s0 : S (K, T) (upd (fun _ => none) R (.lst [.ref p])) ((L2.start N [V.ref a]).set i (some (.ref p))) (fun _ => none) H1 (lawD N.length i x y z) := by
      have hil : i < N.length := by
        obtain ⟨z, _⟩ := List.getElem?_eq_some_iff.mp hd
        exact z
      have getd : ∀ (j : Nat) sl, (lawD N.length i x y z)[j]? = some sl → (j = i ∧ sl = .own [.int x, .int y, .int z]) ∨ sl = .un := fun j sl e => by
        unfold lawD at e
        rcases get_set e with ⟨h1, _, h2⟩ | ⟨_, h2⟩
        · exact .inl ⟨h1.symm, h2⟩
        · rw [List.getElem?_replicate] at h2
          split at h2
          · cases h2; exact .inr rfl
          · cases h2
      refine ⟨(fun c o e => nomatch e), fun c o e => ?_, fun c o e => rfl, by unfold lawD; simp [stl], fun j d e => ?_, fun j xs e => ?_, fun j l xs ys hn e1 e2 => ?_, fun t ht => ⟨#[], sm _ _ (hT t ht), True.intro, fun pos cv hc => ?_⟩, fun t ht => ⟨?_, rfl⟩, (fun c ps e => nomatch e), .inr fun c ps e => ?_⟩
      · by_cases hb : c = R
        · subst hb; rw [upd_same] at e; rw [← e]; exact hR1
        · rw [upd_ne hb] at e; cases e
      · rcases getd j _ e with ⟨_, z⟩ | z <;> cases z
      · rcases getd j _ e with ⟨hj, z⟩ | z
        · cases z
          subst hj
          refine ⟨p, [.int x, .int y, .int z], ?_, hp1, RepL.ints [x, y, z], rfl, by rw [upd_ne (Ne.symm nRp)]⟩
          rw [List.getElem?_set_self (by rw [stl]; exact hil)]
        · cases z
      · rcases getd j _ e1 with ⟨hj, _⟩ | z
        · rcases getd l _ e2 with ⟨hl, _⟩ | z
          · exact absurd (hj.trans hl.symm) hn
          · cases z
        · cases z
      · simp [codeAmong] at hc
      · rw [upd_ne]
        intro e
        have := hT t ht
        rw [e, nR] at this
        cases this
      · by_cases hb : c = R
        · subst hb; rw [upd_same] at e; cases e
        · rw [upd_ne hb] at e; cases e
    refine for_list (K := K) (a := R) (xs := [.ref p]) (fun n σ' H' => (n = 0 ∧ σ' = L2.start N [V.ref a] ∧ H' = H1) ∨ (n = 1 ∧ SqL K H' R [.ref p] ∧ ∃ G', S (K, T) (upd (fun _ => none) R (.lst [.ref p])) σ' G' H' δ')) (.inl ⟨rfl, rfl, rfl⟩) (fun n σ' H' _ hp => ?_) (fun n v σ' H' hv hp => ?_) (fun σ' H' hp => ?_)
    · rcases hp with ⟨_, rfl, rfl⟩ | ⟨_, h, _⟩
      · exact .inl (.inl hR1)
      · exact h
    · rcases hp with ⟨rfl, rfl, rfl⟩ | ⟨rfl, _⟩
      · cases hv
        refine sb _ _ _ _ _ _ s0 hbf _ fun σ' G' H' s' g' => ?_
        exact .inr ⟨rfl, .inl (.inl (s'.frm R _ upd_same)), G', s'⟩
      · cases hv
    · rcases hp with ⟨h0, _⟩ | ⟨_, _, G', s'⟩
      · cases h0
      · refine sr _ _ _ _ _ _ s' hrf _ fun σ2 G2 H2 δ2 v s2 g2 rv => ?_
        cases rv
        exact q H2
theorem sw_false {elt : Expr} {gs : List Comprehension} {scope : Scope} {pos py : Pos} {y : Str} {l : Nat} {env : Env} (h : env.scope.names.lookup y = some .cell) : swapsWith (.ListComp elt gs scope pos) (some (.Name y py)) l env = pure false := by
  have hk : env.kindOf y = some .cell := h
  show pure (env.blockKind == .function && env.kindOf y == some .local && _ && _) = pure false
  rw [hk]
  have e : (some NameKind.cell == some NameKind.local) = false := by decide
  rw [e]
  simp only [Bool.and_false, Bool.false_and]
def forBody : List Stmt → List Stmt
  | .For _ _ b _ _ :: _ => b
  | _ => []
end FL

set_option Elab.async false
set_option linter.all false
set_option maxRecDepth 100000
set_option maxHeartbeats 2000000
/-! FL10: the end of a law's row. -/
namespace FL
open PySem PySem.Spec PyProof.Rows L2
theorem walk_law {l : PySem.W.OpenLaw} {n k : Nat} {q : Program} {loose : List Str} {XP : (Str → Option Value) → Heap → Prop} {YP : World → Heap → Prop} {d : DefRec} {K : Params → PySem.W.Frag} {x : Str} {C Pt : Addr}
    (hn : l.most = some n) (hn2 : n ≤ sizeLine) (hdf : d.params.defaults = []) (hr : Room k callerA) (hY : ∀ (w : World) (h : Heap), YP w h → (K w.params).In h)
    (hT : ∀ (w : World) (h : Heap), YP w h → h.get? Pt = some { cls := .none, data := .fields #[] }) (hc : ∀ w : World, PySem.W.codeHdIn (K w.params) C Pt = true) (hK : ∀ w : World, (K w.params).lookup Pt = none)
    (F : ∀ (w : World) (mg : Str → Option Value) (fa : Addr) (h : Heap), (K w.params).In h → h.Ns mainGlobals mg → mg d.name = some (.ref fa) →
      ∃ fd : FuncData, (∀ (s : Shared) (u : Value), BindsTo s fd ⟨[u], []⟩ [(x, u)]) ∧ ∀ base : Heap, (K w.params).In base → base.Ns mainGlobals mg → LamX.TabB base mg C Pt → FnOk l.prog w (K w.params) mg base (L2.CX l.prog w) k fa fd [x] (spLaw (K w.params) [(Pt, (("law" : Str) ++ (".<locals>." : Str)) ++ "<lambda>")])) :
    PySem.W.WalkO q loose XP YP l.row.toRowW d [] (fun f vs => PySem.call f vs) := by
  refine Att.attach_callB hn hdf fun w s₀ s₁ mg mb fa o pm cd doc a vs ns G Y ho hd hcd hmg hobj hints hlen hbits hg => ?_
  have KX := hY w _ Y
  have hT := hT w _ Y
  have hC := PySem.W.codeHd_of_K KX (hc w)
  obtain ⟨fd, hb, hF⟩ := F w mg fa _ KX G.T.g hmg
  refine LamX.law_callTs (cs := [(C, Pt)]) (sp := spLaw (K w.params) [(Pt, (("law" : Str) ++ (".<locals>." : Str)) ++ "<lambda>")]) KX G.T.g G.T.b G.T.builtins G.T.nolimit hg (fun p hp => ?_) (fun p hp => ?_) (fun p hp => ?_) G.T.bmain hobj hints (Nat.le_trans hlen hn2) hr (fun base h1 h2 h3 => hF base h1 h2 (h3 (C, Pt) (by simp))) hb (fun H hH hS => ?_) fun H e s' hx => ?_
  · simp only [List.mem_singleton] at hp; subst hp; exact hT
  · simp only [List.mem_singleton] at hp; subst hp; exact hK w
  · simp only [List.mem_singleton] at hp; subst hp; exact hC
  · refine ⟨a, ns, rfl, hS, fun p hp => ?_, fun H' => rfl⟩
    simp only [List.mem_singleton] at hp; subst hp
    exact hH (C, Pt) (by simp)
  · obtain ⟨_, _, _, _, _, _, _, _, _, _, _, _, z⟩ := hx
    exact z
theorem const_tup {K : PySem.W.Frag} {h : Heap} {mg : Str → Option Value} {x : Str} {a : Addr} {xs : List V} {ds : List D} {od : Option Addr} {its : Array Value} {n : Nat} {sl : Array (Option Value)} (X : K.In h) (G : h.Ns mainGlobals mg) (ha : PySem.W.nsIn K mainGlobals x = some (some (.ref a))) (hl : K.lookup a = some ⟨.type "tuple", od, .seq its n, sl⟩) (hs : its.size ≤ sizeLine) (hv : Vals xs its.toList) (hd : ∀ G, RepL K G xs ds) : Const K mg x (.tup ds) :=
  ⟨.ref a, .ref a, PySem.W.mg_of X G ha, rfl, fun G => .tup (.inr ⟨_, its, n, hl, rfl, rfl, hs, hv⟩) (hd G)⟩
theorem const_val {K : PySem.W.Frag} {h : Heap} {mg : Str → Option Value} {x : Str} {u : Value} {v : V} {d : D} (X : K.In h) (G : h.Ns mainGlobals mg) (ha : PySem.W.nsIn K mainGlobals x = some (some u)) (r : RelV v u) (hd : ∀ G, Rep K G v d) : Const K mg x d := ⟨v, u, PySem.W.mg_of X G ha, r, hd⟩
def exmAll (K : PySem.W.Frag) (cl : Nat → Addr) (nl : List Nat) : Bool := nl.all fun i => nl.all fun j => decide (PySem.W.exmOne K (.ref (cl i)) (.ref (cl j)) = some (i == j))
theorem exm_all {K : PySem.W.Frag} {cl : Nat → Addr} {nl : List Nat} (h : exmAll K cl nl = true) : ∀ i j, i ∈ nl → j ∈ nl → PySem.W.exmOne K (.ref (cl i)) (.ref (cl j)) = some (i == j) := fun i j hi hj => of_decide_eq_true (List.all_eq_true.mp (List.all_eq_true.mp h i hi) j hj)
end FL

set_option Elab.async false
set_option linter.all false
set_option maxRecDepth 100000
set_option maxHeartbeats 2000000
/-! FL11: what bodies come to, by values. -/
namespace FL
open PySem PySem.Spec PyProof.Rows L2
theorem eqB_int (a b : Int) : eqB (.int a) (.int b) = some (a == b) := rfl
theorem eqB_bl (a b : Bool) : eqB (.bl a) (.bl b) = some (a == b) := rfl
theorem eqB_str {a b : Str} (ha : PyData.strOk a = true) (hb : PyData.strOk b = true) : eqB (.str a) (.str b) = some (a == b) := by
  have e : ∀ {x : Str}, PyData.strOk x = true → SeqAt.shaped (.str x) = true := fun {x} h => by
    unfold SeqAt.shaped PyData.canLay0
    rw [h]; rfl
  unfold eqB toPy
  dsimp only
  rw [e ha, e hb]
  rfl
theorem eqD_int (a b : Int) : eqD (.int a) (.int b) = some (.bl (a == b)) := rfl
theorem neD_int (a b : Int) : neD (.int a) (.int b) = some (.bl (!(a == b))) := rfl
theorem eqD_bl (a b : Bool) : eqD (.bl a) (.bl b) = some (.bl (a == b)) := rfl
theorem neD_bl (a b : Bool) : neD (.bl a) (.bl b) = some (.bl (!(a == b))) := rfl
theorem eqD_int_non (a : Int) : eqD (.int a) .non = some (.bl false) := rfl
theorem toPyL_ints : ∀ xs : List Int, toPyL (xs.map D.int) = some (xs.map PyData.int)
  | [] => rfl
  | x :: xs => by rw [List.map_cons, toPyL, toPyL_ints xs]; rfl
theorem canLay_ints : ∀ xs : List Int, PyData.canLayAll0 (xs.map PyData.int) = true
  | [] => rfl
  | x :: xs => by rw [List.map_cons, PyData.canLayAll0, canLay_ints xs]; rfl
theorem eqv_ints : ∀ xs ys : List Int, PyData.eqvAll (xs.map PyData.int) (ys.map PyData.int) = decide (xs = ys)
  | [], [] => rfl
  | [], y :: ys => rfl
  | x :: xs, [] => rfl
  | x :: xs, y :: ys => by
    rw [List.map_cons, List.map_cons, PyData.eqvAll, eqv_ints xs ys]
    show (x == y && decide (xs = ys)) = decide (x :: xs = y :: ys)
    by_cases h : x = y
    · subst h; simp
    · simp [h]
theorem eqB_ints (xs ys : List Int) : eqB (.lst (xs.map .int)) (.lst (ys.map .int)) = some (decide (xs = ys)) := by
  have sh : ∀ xs : List Int, SeqAt.shaped (.list (xs.map .int)) = true := fun xs => by
    unfold SeqAt.shaped PyData.canLay0 PyData.depth
    rw [canLay_ints, PySem.W.depth_ints]; rfl
  unfold eqB toPy
  rw [toPyL_ints, toPyL_ints]
  simp only [Option.map_some]
  rw [sh, sh]
  show some (PyData.eqvAll _ _) = _
  rw [eqv_ints]
theorem eqB_tups (xs ys : List Int) : eqB (.tup (xs.map .int)) (.tup (ys.map .int)) = some (decide (xs = ys)) := by
  have sh : ∀ xs : List Int, SeqAt.shaped (.tuple (xs.map .int)) = true := fun xs => by
    unfold SeqAt.shaped PyData.canLay0 PyData.depth
    rw [canLay_ints, PySem.W.depth_ints]; rfl
  unfold eqB toPy
  rw [toPyL_ints, toPyL_ints]
  simp only [Option.map_some]
  rw [sh, sh]
  show some (PyData.eqvAll _ _) = _
  rw [eqv_ints]
theorem restD_id {δ δ3 : De} {vs : List Nat} (h1 : δ3.length = δ.length) (h2 : ∀ j, j ∉ vs → δ3[j]? = δ[j]?) : restD δ δ3 vs = δ := by
  apply List.ext_getElem?
  intro j
  rw [restD_get]
  by_cases hj : j ∈ vs
  · rw [if_pos hj]
    by_cases hl : j < δ.length
    · rw [List.getElem?_eq_getElem (show j < δ3.length by omega), List.getElem?_eq_getElem hl]
      rfl
    · rw [List.getElem?_eq_none_iff.mpr (by omega), List.getElem?_eq_none_iff.mpr (by omega)]
      rfl
  · rw [if_neg hj, h2 j hj]
/-- a comprehension whose element is read off the item -/
theorem lcD_map {vs : List Nat} {bd : D → De → Option De} {fe : M D} {g : D → D} {δ : De} (hno : noOwn δ vs = true) : ∀ (ds : List D), (∀ d ∈ ds, ∃ δ1, bd d (wipeD δ vs) = some δ1 ∧ δ1.length = δ.length ∧ (∀ j, j ∉ vs → δ1[j]? = δ[j]?) ∧ fe δ1 = some (.ok (g d) δ1)) →
    lcD vs bd (pureM true) fe ds δ = some (.ok (ds.map g) δ)
  | [], _ => rfl
  | d :: ds, h => by
    obtain ⟨δ1, h1, h2, h3, h4⟩ := h d (by simp)
    rw [lcD, if_pos hno, h1]
    dsimp only [pureM]
    rw [h4]
    dsimp only
    rw [restD_id h2 h3, lcD_map hno ds fun x hx => h x (by simp [hx])]
    rfl
theorem lcD_filter {vs : List Nat} {bd : D → De → Option De} {tt : M Bool} {fe : M D} {p : D → Bool} {g : D → D} {δ : De} (hno : noOwn δ vs = true) : ∀ (ds : List D), (∀ d ∈ ds, ∃ δ1, bd d (wipeD δ vs) = some δ1 ∧ δ1.length = δ.length ∧ (∀ j, j ∉ vs → δ1[j]? = δ[j]?) ∧ tt δ1 = some (.ok (p d) δ1) ∧ (p d = true → fe δ1 = some (.ok (g d) δ1))) →
    lcD vs bd tt fe ds δ = some (.ok ((ds.filter p).map g) δ)
  | [], _ => rfl
  | d :: ds, h => by
    obtain ⟨δ1, h1, h2, h3, h4, h5⟩ := h d (by simp)
    have ih := lcD_filter hno ds fun x hx => h x (by simp [hx])
    rw [lcD, if_pos hno, h1]
    dsimp only
    rw [h4]
    cases hp : p d with
    | false =>
      dsimp only
      rw [restD_id h2 h3, ih, List.filter_cons_of_neg (by simp [hp])]
    | true =>
      dsimp only
      rw [h5 hp]
      dsimp only
      rw [restD_id h2 h3, ih, List.filter_cons_of_pos hp]
      rfl
/-- what a name binds in a comprehension -/
theorem bind1 {v : Nat} {d : D} {δ : De} : ∃ δ1, bName v d (wipeD δ [v]) = some δ1 ∧ δ1 = δ.set v (.val d) ∧ δ1.length = δ.length ∧ ∀ j, j ∉ [v] → δ1[j]? = δ[j]? := by
  refine ⟨δ.set v (.val d), ?_, rfl, by simp, fun j hj => ?_⟩
  · show some (((δ.set v .un)).set v (.val d)) = _
    rw [List.set_set]
  · rw [List.getElem?_set_ne]
    simpa using Ne.symm (by simpa using hj)
theorem bind2 {u v : Nat} {x y : D} {δ : De} (huv : u ≠ v) : ∃ δ1, bTup (bCons (bName u) (bCons (bName v) bNil)) (.tup [x, y]) (wipeD δ [u, v]) = some δ1 ∧ δ1 = (δ.set u (.val x)).set v (.val y) ∧ δ1.length = δ.length ∧ ∀ j, j ∉ [u, v] → δ1[j]? = δ[j]? := by
  refine ⟨(δ.set u (.val x)).set v (.val y), ?_, rfl, by simp, fun j hj => ?_⟩
  · show some ((((δ.set v .un).set u .un).set u (.val x)).set v (.val y)) = _
    rw [List.set_set, List.set_comm _ _ (Ne.symm huv), List.set_set]
  · simp only [List.mem_cons, List.not_mem_nil, or_false, not_or] at hj
    rw [List.getElem?_set_ne (Ne.symm hj.2), List.getElem?_set_ne (Ne.symm hj.1)]
/-- [c + _law_roll(dice, m) for k in ..] -/
theorem rolls {i v : Nat} {c m : Int} (hm : 0 < m ∧ m < 1073741824) (hiv : i ≠ v) : ∀ (ds : List D) (δ : De) (x y z : Int), ownAt δ i = some [.int x, .int y, .int z] → ownAt δ v = none →
    ∃ (rs : List Int) (x' y' z' : Int), rs.length = ds.length ∧ (∀ r ∈ rs, c ≤ r ∧ r < c + m) ∧ lcD [v] (bName v) (pureM true) (bin2 addD (pureM (.int c)) (rollM i (pureM (.int m)))) ds δ = some (.ok (rs.map .int) (δ.set i (.own [.int x', .int y', .int z'])))
  | [], δ, x, y, z, h, _ => by
    have e := ownAt_some h
    have hl : i < δ.length := (List.getElem?_eq_some_iff.mp e).1
    refine ⟨[], x, y, z, rfl, by simp, ?_⟩
    rw [lcD]
    congr 2
    apply List.ext_getElem?
    intro j
    by_cases hj : i = j
    · subst hj; rw [List.getElem?_set_self hl, e]
    · rw [List.getElem?_set_ne hj]
  | d :: ds, δ, x, y, z, h, hv => by
    have e := ownAt_some h
    have hl : i < δ.length := (List.getElem?_eq_some_iff.mp e).1
    have r0 := rollF_lo x y z m hm.1
    have r1 := rollF_hi x y z m hm.1
    generalize hr : rollF x y z m = rr at r0 r1
    obtain ⟨r, x1, y1, z1⟩ := rr
    have own1 : ownAt (δ.set i (.own [.int x1, .int y1, .int z1])) i = some [.int x1, .int y1, .int z1] := by
      unfold ownAt; rw [List.getElem?_set_self hl]
    have ownv : ownAt (δ.set i (.own [.int x1, .int y1, .int z1])) v = none := by
      unfold ownAt at hv ⊢; rw [List.getElem?_set_ne hiv]; exact hv
    obtain ⟨rs, x', y', z', h1, h2, h3⟩ := rolls hm hiv ds (δ.set i (.own [.int x1, .int y1, .int z1])) x1 y1 z1 own1 ownv
    refine ⟨(c + r) :: rs, x', y', z', by simp [h1], fun q hq => ?_, ?_⟩
    · rcases List.mem_cons.mp hq with rfl | hq
      · dsimp only at r0 r1; omega
      · exact h2 q hq
    · have no : noOwn δ [v] = true := by unfold noOwn; simp [hv]
      have st : ∀ δ : De, bName v d (wipeD δ [v]) = some (δ.set v (.val d)) := fun δ => by
        show some ((δ.set v .un).set v (.val d)) = _
        rw [List.set_set]
      rw [lcD, if_pos no, st]
      dsimp only [pureM]
      have ow : ownAt (δ.set v (.val d)) i = some [.int x, .int y, .int z] := by
        unfold ownAt; rw [List.getElem?_set_ne (Ne.symm hiv), e]
      have ev : bin2 addD (pureM (.int c)) (rollM i (pureM (.int m))) (δ.set v (.val d)) = some (.ok (.int (c + r)) ((δ.set v (.val d)).set i (.own [.int x1, .int y1, .int z1]))) := by
        unfold bin2 bindM rollM pureM
        dsimp only
        rw [ow]
        unfold bindM rollK
        dsimp only
        rw [ow]
        dsimp only
        rw [if_pos hm, hr]
        rfl
      rw [ev]
      dsimp only
      have er : restD δ ((δ.set v (.val d)).set i (.own [.int x1, .int y1, .int z1])) [v] = δ.set i (.own [.int x1, .int y1, .int z1]) := by
        apply List.ext_getElem?
        intro j
        rw [restD_get]
        by_cases hj : j = v
        · subst hj
          rw [if_pos (by simp), List.getElem?_set_ne hiv, List.getElem?_set_ne hiv, List.getElem?_set]
          by_cases hl : j < δ.length
          · simp [hl]
          · simp [hl]
        · rw [if_neg (by simpa using hj)]
          by_cases hi : i = j
          · subst hi
            rw [List.getElem?_set_self (by simpa using hl), List.getElem?_set_self hl]
          · rw [List.getElem?_set_ne hi, List.getElem?_set_ne hi, List.getElem?_set_ne (Ne.symm hj)]
      rw [er, h3]
      dsimp only
      rw [List.set_set]
      rfl
theorem seqS_nx {f g : Fo} {δ δ' : De} (h : f δ = some (.nx δ')) : seqS f g δ = g δ' := by unfold seqS; rw [h]
theorem thenS_ok {α : Type} {m : M α} {k : α → Fo} {δ δ' : De} {a : α} (h : m δ = some (.ok a δ')) : thenS m k δ = k a δ' := by unfold thenS; rw [h]
theorem own_at {δ : De} {i : Nat} {xs : List D} (h : δ[i]? = some (.own xs)) : ownAt δ i = some xs := by unfold ownAt; rw [h]
theorem roll1 {i : Nat} {m x y z : Int} {δ : De} (hm : 0 < m ∧ m < 1073741824) (h : ownAt δ i = some [.int x, .int y, .int z]) :
    ∃ r x' y' z' : Int, 0 ≤ r ∧ r < m ∧ rollM i (pureM (.int m)) δ = some (.ok (.int r) (δ.set i (.own [.int x', .int y', .int z']))) := by
  refine ⟨(rollF x y z m).1, (rollF x y z m).2.1, (rollF x y z m).2.2.1, (rollF x y z m).2.2.2, rollF_lo x y z m hm.1, rollF_hi x y z m hm.1, ?_⟩
  unfold rollM
  rw [h]
  dsimp only [FL.bindM, pureM]
  unfold rollK
  rw [h]
  dsimp only
  rw [if_pos hm]
theorem lcM_rolls {i v : Nat} {c m x y z : Int} {items : M (List D)} {δ δ1 : De} {ds : List D} (hm : 0 < m ∧ m < 1073741824) (hiv : i ≠ v) (hi : items δ = some (.ok ds δ1)) (hl : ds.length < 1000000) (h : ownAt δ1 i = some [.int x, .int y, .int z]) (hv : ownAt δ1 v = none) :
    ∃ (rs : List Int) (x' y' z' : Int), rs.length = ds.length ∧ (∀ r ∈ rs, c ≤ r ∧ r < c + m) ∧ lcM [v] (bName v) (pureM true) (bin2 addD (pureM (.int c)) (rollM i (pureM (.int m)))) items δ = some (.ok (.lst (rs.map .int)) (δ1.set i (.own [.int x', .int y', .int z']))) := by
  obtain ⟨rs, x', y', z', h1, h2, h3⟩ := rolls (c := c) hm hiv ds δ1 x y z h hv
  refine ⟨rs, x', y', z', h1, h2, ?_⟩
  unfold lcM
  rw [bindM_ok hi, if_pos hl, bindM_ok h3]
  rfl
theorem lcM_map {vs : List Nat} {bd : D → De → Option De} {fe : M D} {g : D → D} {items : M (List D)} {δ δ1 : De} {ds : List D} (hi : items δ = some (.ok ds δ1)) (hl : ds.length < 1000000) (hno : noOwn δ1 vs = true)
    (h : ∀ d ∈ ds, ∃ δ2, bd d (wipeD δ1 vs) = some δ2 ∧ δ2.length = δ1.length ∧ (∀ j, j ∉ vs → δ2[j]? = δ1[j]?) ∧ fe δ2 = some (.ok (g d) δ2)) : lcM vs bd (pureM true) fe items δ = some (.ok (.lst (ds.map g)) δ1) := by
  unfold lcM
  rw [bindM_ok hi, if_pos hl, bindM_ok (lcD_map hno ds h)]
  rfl
theorem lcM_filter {vs : List Nat} {bd : D → De → Option De} {tt : M Bool} {fe : M D} {p : D → Bool} {g : D → D} {items : M (List D)} {δ δ1 : De} {ds : List D} (hi : items δ = some (.ok ds δ1)) (hl : ds.length < 1000000) (hno : noOwn δ1 vs = true)
    (h : ∀ d ∈ ds, ∃ δ2, bd d (wipeD δ1 vs) = some δ2 ∧ δ2.length = δ1.length ∧ (∀ j, j ∉ vs → δ2[j]? = δ1[j]?) ∧ tt δ2 = some (.ok (p d) δ2) ∧ (p d = true → fe δ2 = some (.ok (g d) δ2))) : lcM vs bd tt fe items δ = some (.ok (.lst ((ds.filter p).map g)) δ1) := by
  unfold lcM
  rw [bindM_ok hi, if_pos hl, bindM_ok (lcD_filter hno ds h)]
  rfl
theorem cut_tail {α : Type} (xs : List α) : cutL xs (some 1) none = xs.tail := by
  unfold cutL
  rw [show HT.sIx xs.length 0 (some 1) = min 1 xs.length from HT.sIx_nat xs.length 0 1, HT.sIx_none]
  cases xs with
  | nil => rfl
  | cons x r =>
    rw [show min 1 (x :: r).length = 1 by simp]
    simp
theorem zipL_ints : ∀ (xs ys : List Int), zipL (xs.map .int) (ys.map .int) = (xs.zip ys).map fun p => .tup [.int p.1, .int p.2]
  | [], ys => by simp [zipL]
  | x :: xs, [] => by simp [zipL]
  | x :: xs, y :: ys => by simp [zipL, zipL_ints xs ys]
end FL

set_option Elab.async false
set_option linter.all false
set_option maxRecDepth 100000
set_option maxHeartbeats 2000000
/-! FL12: going on through a body, statement by statement. -/
namespace FL
open PySem PySem.Spec PyProof.Rows L2
def Nx (f : Fo) (δ : De) : Prop := ∃ δ', f δ = some (.nx δ')
theorem nx_seq {f g : Fo} {δ : De} (δ' : De) (h : f δ = some (.nx δ')) (k : Nx g δ') : Nx (seqS f g) δ := by
  obtain ⟨x, hx⟩ := k
  exact ⟨x, by rw [seqS_nx h]; exact hx⟩
theorem rt_seq {f g : Fo} {δ δ' : De} {o : Option Out} (h : f δ = some (.nx δ')) (k : g δ' = o) : seqS f g δ = o := by rw [seqS_nx h]; exact k
theorem if_no {m : M Bool} {f : Fo} {δ : De} (h : m δ = some (.ok false δ)) : thenS m (fun k => if k then f else nxS) δ = some (.nx δ) := by rw [thenS_ok h]; rfl
theorem not_no {m : M Bool} {δ : De} (h : m δ = some (.ok true δ)) : bindM m (fun k => pureM (!k)) δ = some (.ok false δ) := by rw [bindM_ok h]; rfl
theorem or_no {f g : M Bool} {δ : De} (h1 : f δ = some (.ok false δ)) (h2 : g δ = some (.ok false δ)) : orT f g δ = some (.ok false δ) := by
  unfold orT; rw [bindM_ok h1]; exact h2
theorem and_no1 {f g : M Bool} {δ : De} (h1 : f δ = some (.ok false δ)) : andT f g δ = some (.ok false δ) := by
  unfold andT; rw [bindM_ok h1]; rfl
theorem and_2 {f g : M Bool} {δ : De} {b : Bool} (h1 : f δ = some (.ok true δ)) (h2 : g δ = some (.ok b δ)) : andT f g δ = some (.ok b δ) := by
  unfold andT; rw [bindM_ok h1]; exact h2
theorem bin2_of {g : D → D → Option D} {m n : M D} {x y d : D} {δ δ1 δ2 : De} (h1 : m δ = some (.ok x δ1)) (h2 : n δ1 = some (.ok y δ2)) (h3 : g x y = some d) : bin2 g m n δ = some (.ok d δ2) := by
  unfold bin2; rw [bindM_ok h1, bindM_ok h2, h3]; rfl
theorem tst_of {m : M D} {b : Bool} {δ δ1 : De} (h : m δ = some (.ok (.bl b) δ1)) : tst m δ = some (.ok b δ1) := by
  unfold tst; rw [bindM_ok h]; rfl
theorem ne_no {m n : M D} {x y : D} {δ δ1 δ2 : De} (h1 : m δ = some (.ok x δ1)) (h2 : n δ1 = some (.ok y δ2)) (h3 : eqB x y = some true) : tst (bin2 neD m n) δ = some (.ok false δ2) :=
  tst_of (bin2_of h1 h2 (by unfold neD; rw [h3]; rfl))
theorem eq_of {m n : M D} {x y : D} {b : Bool} {δ δ1 δ2 : De} (h1 : m δ = some (.ok x δ1)) (h2 : n δ1 = some (.ok y δ2)) (h3 : eqB x y = some b) : tst (bin2 eqD m n) δ = some (.ok b δ2) :=
  tst_of (bin2_of h1 h2 (by unfold eqD; rw [h3]; rfl))
theorem call_of {f : DF} {m : M (List D)} {ds : List D} {d : D} {δ δ1 : De} (h1 : m δ = some (.ok ds δ1)) (h2 : f ds = some (.ret d)) : callM f m δ = some (.ok d δ1) := by
  unfold callM; rw [bindM_ok h1, h2]; rfl
theorem cb_of {g : List D → Option D} {m : M (List D)} {ds : List D} {d : D} {δ δ1 : De} (h1 : m δ = some (.ok ds δ1)) (h2 : g ds = some d) : callB g m δ = some (.ok d δ1) := by
  unfold callB; rw [bindM_ok h1, h2]; rfl
theorem cons_of {m : M D} {n : M (List D)} {d : D} {ds : List D} {δ δ1 δ2 : De} (h1 : m δ = some (.ok d δ1)) (h2 : n δ1 = some (.ok ds δ2)) : consM m n δ = some (.ok (d :: ds) δ2) := by
  unfold consM; rw [bindM_ok h1, bindM_ok h2]; rfl
theorem one_of {m : M D} {d : D} {δ δ1 : De} (h1 : m δ = some (.ok d δ1)) : consM m (pureM []) δ = some (.ok [d] δ1) := cons_of h1 rfl
theorem itM_of {g : List D → Option (List D)} {m : M (List D)} {ds es : List D} {δ δ1 : De} (h1 : m δ = some (.ok ds δ1)) (h2 : g ds = some es) : itM g m δ = some (.ok es δ1) := by
  unfold itM; rw [bindM_ok h1, h2]; rfl
theorem var_of {i : Nat} {d : D} {δ : De} (h : δ[i]? = some (.val d)) : varM i δ = some (.ok d δ) := by unfold varM; rw [h]
theorem told_ex {nl : List (Nat × Str)} {m : M D} {δ : De} {k : Nat} {n : Str} (h : m (hideOwn δ) = some (.ex k)) (hn : toldName nl k = some n) : toldM nl m δ = some (.ok (.str n) δ) := by
  unfold toldM; rw [h]; dsimp only; rw [hn]; rfl
theorem lst_of {m : M (List D)} {ds : List D} {δ δ1 : De} (h : m δ = some (.ok ds δ1)) (hl : ds.length ≤ 1000000) : lstM m δ = some (.ok (.lst ds) δ1) := by
  unfold lstM; rw [bindM_ok h, if_pos hl]; rfl
theorem eqB_nil : eqB (.lst []) (.lst []) = some true := rfl
theorem eqB_tnil : eqB (.tup []) (.tup []) = some true := rfl
theorem rng1_len {n : Nat} (h : n < 1000000) : rng1 [.int (n : Int)] = some (rangeL 0 n) := by
  unfold rng1
  dsimp only
  rw [if_pos (by unfold inR; omega)]
  rfl
theorem rng1_pred {n : Nat} (h : n < 1000000) : rng1 [.int ((n : Int) - 1)] = some (rangeL 0 (n - 1)) := by
  unfold rng1
  dsimp only
  rw [if_pos (by unfold inR; omega)]
  rw [show ((n : Int) - 1).toNat = n - 1 by omega]
theorem rangeL_mem {lo : Int} {n : Nat} {d : D} (h : d ∈ rangeL lo n) : ∃ k : Nat, k < n ∧ d = .int (lo + k) := by
  unfold rangeL at h
  obtain ⟨k, hk, rfl⟩ := List.mem_map.mp h
  exact ⟨k, List.mem_range.mp hk, rfl⟩
theorem at_int {t : List Int} {k : Nat} (h : k < t.length) : ixD (.lst (t.map .int)) (.int (k : Int)) = some (.int (t.getD k 0)) := by
  show atI _ _ = _
  refine atI_nat ?_
  rw [List.getElem?_map, List.getElem?_eq_getElem h, List.getD_eq_getElem?_getD, List.getElem?_eq_getElem h]
  rfl
theorem at_int1 {t : List Int} {k : Nat} (h : k + 1 < t.length) : ixD (.lst (t.map .int)) (.int ((k : Int) + 1)) = some (.int (t.getD (k + 1) 0)) := at_int h
theorem maxL_eq {t : List Int} (h : t ≠ []) : maxD [.lst (t.map .int)] = some (.int (maxL t)) := by
  unfold maxD; dsimp only; rw [intsOf_map]; cases t with
  | nil => exact absurd rfl h
  | cons x r => rfl
theorem minL_eq {t : List Int} (h : t ≠ []) : minD [.lst (t.map .int)] = some (.int (minL t)) := by
  unfold minD; dsimp only; rw [intsOf_map]; cases t with
  | nil => exact absurd rfl h
  | cons x r => rfl
theorem enum_ints : ∀ (t : List Int) (k : Nat), enumFrom k (t.map .int) = (List.range t.length).map fun i => .tup [.int ((k + i : Nat) : Int), .int (t.getD i 0)]
  | [], k => rfl
  | x :: r, k => by
    rw [List.map_cons, enumFrom, enum_ints r (k + 1), List.length_cons, List.range_succ_eq_map, List.map_cons, List.map_map]
    congr 1
    apply List.map_congr_left
    intro i _
    simp [Nat.add_assoc, Nat.add_comm 1 i]
theorem enum_mem {t : List Int} {d : D} (h : d ∈ enumFrom 0 (t.map .int)) : ∃ k : Nat, k < t.length ∧ d = .tup [.int (k : Int), .int (t.getD k 0)] := by
  rw [enum_ints] at h
  obtain ⟨k, hk, rfl⟩ := List.mem_map.mp h
  exact ⟨k, List.mem_range.mp hk, by simp⟩
theorem flatL_ints : ∀ xs : List Int, flatL (xs.map .int) = some (xs.map V.int)
  | [] => rfl
  | x :: xs => by rw [List.map_cons, flatL, flatL_ints xs]; rfl
theorem in_ints (r : Int) (xs : List Int) : inD false (.int r) (.lst (xs.map .int)) = some (.bl (xs.any fun x => x == r)) := by
  unfold inD inB flatOf
  dsimp only
  rw [flatL_ints]
  show some (D.bl (inV (.int r) (xs.map V.int))) = _
  unfold inV
  rw [List.any_map]
  rfl
theorem in_tints (r : Int) (xs : List Int) : inD false (.int r) (.tup (xs.map .int)) = some (.bl (xs.any fun x => x == r)) := by
  unfold inD inB flatOf
  dsimp only
  rw [flatL_ints]
  show some (D.bl (inV (.int r) (xs.map V.int))) = _
  unfold inV
  rw [List.any_map]
  rfl
theorem andM_of {m n : M D} {p q : Bool} {δ : De} (h1 : m δ = some (.ok (.bl p) δ)) (h2 : n δ = some (.ok (.bl q) δ)) : andM m n δ = some (.ok (.bl (p && q)) δ) := by
  unfold andM; rw [bindM_ok h1]; cases p
  · rfl
  · exact h2
end FL

set_option Elab.async false
set_option linter.all false
set_option maxRecDepth 100000
set_option maxHeartbeats 2000000
namespace V
open PySem PySem.Spec PyProof.Rows L2 FL
def topS (i : Nat) : Stmt := PySem.Challenge.pw_voicewright_k02_how_lines_move.main.body.getD i (.Pass ⟨0, 0, 0, 0⟩)
structure TX (K : PySem.W.Frag) (mg : Str → Option Value) (cl : Nat → Addr) : Prop where
  b_abs : mg "abs" = none
  b_enumerate : mg "enumerate" = none
  b_int : mg "int" = none
  b_len : mg "len" = none
  b_list : mg "list" = none
  b_max : mg "max" = none
  b_min : mg "min" = none
  b_range : mg "range" = none
  b_tuple : mg "tuple" = none
  b_zip : mg "zip" = none
  c_PERFECT : Const K mg "PERFECT" (.tup [.int 0, .int 7])
  c_SOFT : Const K mg "SOFT" (.tup [.int 3, .int 4, .int 8, .int 9])
  x_BadSize : ExcC K mg "BadSize" (cl 6)
abbrev s_size : Stmt := topS 14
abbrev s_simple : Stmt := topS 15
abbrev s_goes_together : Stmt := topS 16
abbrev s_is_perfect : Stmt := topS 17
abbrev s_is_step : Stmt := topS 18
abbrev s_is_leap : Stmt := topS 19
abbrev s_way_of : Stmt := topS 20
abbrev s_motion : Stmt := topS 21
abbrev s_goes_one_way : Stmt := topS 22
abbrev s_runs_alike : Stmt := topS 23
abbrev s_falls_into : Stmt := topS 24
abbrev s_inverted : Stmt := topS 25
abbrev s_shape : Stmt := topS 26
abbrev s_moves : Stmt := topS 27
abbrev s_span : Stmt := topS 28
abbrev s_top_places : Stmt := topS 29
abbrev s__law_dice : Stmt := topS 31
theorem sc_size : FnScope ["one", "other"] ["one", "other"] (defScope s_size) := ⟨rfl, rfl, rfl, by decide +kernel, rfl, by decide +kernel, by decide +kernel⟩
def b_size : Fo := (thenS (callB absD (consM (bin2 subD (varM 1) (varM 0)) (pureM []))) fun d _ => some (.rt d))
def F_size : DF := defF ["one", "other"] 2 b_size
theorem fs_size {P : Program} {w : World} {K : PySem.W.Frag} {mg : Str → Option Value} {base : Heap} {cl : Nat → Addr} (T : TX K mg cl)  (E : XK) : FS ⟨P, w, K, mg, base, ["one", "other"], defScope s_size, 0, cl, E, fun _ => true, [], .none, ""⟩ (defBody s_size) b_size :=
  (fs_one (fs_ret (fe_abs T.b_abs (fa_cons (fe_sub (fe_var 1) (fe_var 0)) fa_nil))))
theorem fn_size {P : Program} {w : World} {K : PySem.W.Frag} {mg : Str → Option Value} {base : Heap} {cl : Nat → Addr} {a : Addr} {fd : FuncData} (T : TX K mg cl)  (Fn : Fun K "size" "size" s_size a fd) (hm : mg "size" = some (.ref a)) (hb : Binds K fd ["one", "other"] []) : FnD P w K mg base cl 1 "size" F_size :=
  fnD Fn sc_size hm hb (by decide) (fs_size T )
theorem sc_simple : FnScope ["one", "other"] ["one", "other"] (defScope s_simple) := ⟨rfl, rfl, rfl, by decide +kernel, rfl, by decide +kernel, by decide +kernel⟩
def b_simple : Fo := (thenS (bin2 modD (callM F_size (consM (varM 0) (consM (varM 1) (pureM [])))) (pureM (.int 12))) fun d _ => some (.rt d))
def F_simple : DF := defF ["one", "other"] 2 b_simple
theorem fs_simple {P : Program} {w : World} {K : PySem.W.Frag} {mg : Str → Option Value} {base : Heap} {cl : Nat → Addr} (T : TX K mg cl) (d_size : FnD P w K mg base cl 1 "size" F_size) (E : XK) : FS ⟨P, w, K, mg, base, ["one", "other"], defScope s_simple, 1, cl, E, fun _ => true, [], .none, ""⟩ (defBody s_simple) b_simple :=
  (fs_one (fs_ret (fe_mod (fe_call d_size (fa_cons (fe_var 0) (fa_cons (fe_var 1) fa_nil))) fe_int)))
theorem fn_simple {P : Program} {w : World} {K : PySem.W.Frag} {mg : Str → Option Value} {base : Heap} {cl : Nat → Addr} {a : Addr} {fd : FuncData} (T : TX K mg cl) (d_size : FnD P w K mg base cl 1 "size" F_size) (Fn : Fun K "simple" "simple" s_simple a fd) (hm : mg "simple" = some (.ref a)) (hb : Binds K fd ["one", "other"] []) : FnD P w K mg base cl 2 "simple" F_simple :=
  fnD Fn sc_simple hm hb (by decide) (fs_simple T d_size)
theorem sc_goes_together : FnScope ["low", "high", "apart"] ["low", "high"] (defScope s_goes_together) := ⟨rfl, rfl, rfl, by decide +kernel, rfl, by decide +kernel, by decide +kernel⟩
def b_goes_together : Fo := (seqS (thenS (callM F_simple (consM (varM 0) (consM (varM 1) (pureM [])))) fun d δ => some (.nx (δ.set 2 (.val d)))) (thenS (orM (bin2 (inD false) (varM 2) (pureM (.tup [.int 0, .int 7]))) (bin2 (inD false) (varM 2) (pureM (.tup [.int 3, .int 4, .int 8, .int 9])))) fun d _ => some (.rt d)))
def F_goes_together : DF := defF ["low", "high", "apart"] 2 b_goes_together
theorem fs_goes_together {P : Program} {w : World} {K : PySem.W.Frag} {mg : Str → Option Value} {base : Heap} {cl : Nat → Addr} (T : TX K mg cl) (d_simple : FnD P w K mg base cl 2 "simple" F_simple) (E : XK) : FS ⟨P, w, K, mg, base, ["low", "high", "apart"], defScope s_goes_together, 2, cl, E, fun _ => true, [], .none, ""⟩ (defBody s_goes_together) b_goes_together :=
  (fs_cons (fs_set 2 sc_goes_together.nd (fe_call d_simple (fa_cons (fe_var 0) (fa_cons (fe_var 1) fa_nil)))) (fs_one (fs_ret (fe_or (fe_in (fe_var 2) (fe_const T.c_PERFECT)) (fe_one (fe_in (fe_var 2) (fe_const T.c_SOFT)))))))
theorem fn_goes_together {P : Program} {w : World} {K : PySem.W.Frag} {mg : Str → Option Value} {base : Heap} {cl : Nat → Addr} {a : Addr} {fd : FuncData} (T : TX K mg cl) (d_simple : FnD P w K mg base cl 2 "simple" F_simple) (Fn : Fun K "goes_together" "goes_together" s_goes_together a fd) (hm : mg "goes_together" = some (.ref a)) (hb : Binds K fd ["low", "high"] []) : FnD P w K mg base cl 3 "goes_together" F_goes_together :=
  fnD Fn sc_goes_together hm hb (by decide) (fs_goes_together T d_simple)
theorem sc_is_perfect : FnScope ["low", "high"] ["low", "high"] (defScope s_is_perfect) := ⟨rfl, rfl, rfl, by decide +kernel, rfl, by decide +kernel, by decide +kernel⟩
def b_is_perfect : Fo := (thenS (bin2 (inD false) (callM F_simple (consM (varM 0) (consM (varM 1) (pureM [])))) (pureM (.tup [.int 0, .int 7]))) fun d _ => some (.rt d))
def F_is_perfect : DF := defF ["low", "high"] 2 b_is_perfect
theorem fs_is_perfect {P : Program} {w : World} {K : PySem.W.Frag} {mg : Str → Option Value} {base : Heap} {cl : Nat → Addr} (T : TX K mg cl) (d_simple : FnD P w K mg base cl 2 "simple" F_simple) (E : XK) : FS ⟨P, w, K, mg, base, ["low", "high"], defScope s_is_perfect, 2, cl, E, fun _ => true, [], .none, ""⟩ (defBody s_is_perfect) b_is_perfect :=
  (fs_one (fs_ret (fe_in (fe_call d_simple (fa_cons (fe_var 0) (fa_cons (fe_var 1) fa_nil))) (fe_const T.c_PERFECT))))
theorem fn_is_perfect {P : Program} {w : World} {K : PySem.W.Frag} {mg : Str → Option Value} {base : Heap} {cl : Nat → Addr} {a : Addr} {fd : FuncData} (T : TX K mg cl) (d_simple : FnD P w K mg base cl 2 "simple" F_simple) (Fn : Fun K "is_perfect" "is_perfect" s_is_perfect a fd) (hm : mg "is_perfect" = some (.ref a)) (hb : Binds K fd ["low", "high"] []) : FnD P w K mg base cl 3 "is_perfect" F_is_perfect :=
  fnD Fn sc_is_perfect hm hb (by decide) (fs_is_perfect T d_simple)
theorem sc_is_step : FnScope ["one", "other"] ["one", "other"] (defScope s_is_step) := ⟨rfl, rfl, rfl, by decide +kernel, rfl, by decide +kernel, by decide +kernel⟩
def b_is_step : Fo := (thenS (chainM leD leD (pureM (.int 1)) (callM F_size (consM (varM 0) (consM (varM 1) (pureM [])))) (pureM (.int 2))) fun d _ => some (.rt d))
def F_is_step : DF := defF ["one", "other"] 2 b_is_step
theorem fs_is_step {P : Program} {w : World} {K : PySem.W.Frag} {mg : Str → Option Value} {base : Heap} {cl : Nat → Addr} (T : TX K mg cl) (d_size : FnD P w K mg base cl 1 "size" F_size) (E : XK) : FS ⟨P, w, K, mg, base, ["one", "other"], defScope s_is_step, 1, cl, E, fun _ => true, [], .none, ""⟩ (defBody s_is_step) b_is_step :=
  (fs_one (fs_ret (fe_lele fe_int (fe_call d_size (fa_cons (fe_var 0) (fa_cons (fe_var 1) fa_nil))) fe_int)))
theorem fn_is_step {P : Program} {w : World} {K : PySem.W.Frag} {mg : Str → Option Value} {base : Heap} {cl : Nat → Addr} {a : Addr} {fd : FuncData} (T : TX K mg cl) (d_size : FnD P w K mg base cl 1 "size" F_size) (Fn : Fun K "is_step" "is_step" s_is_step a fd) (hm : mg "is_step" = some (.ref a)) (hb : Binds K fd ["one", "other"] []) : FnD P w K mg base cl 2 "is_step" F_is_step :=
  fnD Fn sc_is_step hm hb (by decide) (fs_is_step T d_size)
theorem sc_is_leap : FnScope ["one", "other"] ["one", "other"] (defScope s_is_leap) := ⟨rfl, rfl, rfl, by decide +kernel, rfl, by decide +kernel, by decide +kernel⟩
def b_is_leap : Fo := (thenS (bin2 gtD (callM F_size (consM (varM 0) (consM (varM 1) (pureM [])))) (pureM (.int 4))) fun d _ => some (.rt d))
def F_is_leap : DF := defF ["one", "other"] 2 b_is_leap
theorem fs_is_leap {P : Program} {w : World} {K : PySem.W.Frag} {mg : Str → Option Value} {base : Heap} {cl : Nat → Addr} (T : TX K mg cl) (d_size : FnD P w K mg base cl 1 "size" F_size) (E : XK) : FS ⟨P, w, K, mg, base, ["one", "other"], defScope s_is_leap, 1, cl, E, fun _ => true, [], .none, ""⟩ (defBody s_is_leap) b_is_leap :=
  (fs_one (fs_ret (fe_gt (fe_call d_size (fa_cons (fe_var 0) (fa_cons (fe_var 1) fa_nil))) fe_int)))
theorem fn_is_leap {P : Program} {w : World} {K : PySem.W.Frag} {mg : Str → Option Value} {base : Heap} {cl : Nat → Addr} {a : Addr} {fd : FuncData} (T : TX K mg cl) (d_size : FnD P w K mg base cl 1 "size" F_size) (Fn : Fun K "is_leap" "is_leap" s_is_leap a fd) (hm : mg "is_leap" = some (.ref a)) (hb : Binds K fd ["one", "other"] []) : FnD P w K mg base cl 2 "is_leap" F_is_leap :=
  fnD Fn sc_is_leap hm hb (by decide) (fs_is_leap T d_size)
theorem sc_way_of : FnScope ["one", "other"] ["one", "other"] (defScope s_way_of) := ⟨rfl, rfl, rfl, by decide +kernel, rfl, by decide +kernel, by decide +kernel⟩
def b_way_of : Fo := (seqS (thenS (tst (bin2 gtD (varM 1) (varM 0))) fun k => if k then (thenS (pureM (.int 1)) fun d _ => some (.rt d)) else nxS) (thenS (iteM (tst (bin2 ltD (varM 1) (varM 0))) (un1 negD (pureM (.int 1))) (pureM (.int 0))) fun d _ => some (.rt d)))
def F_way_of : DF := defF ["one", "other"] 2 b_way_of
theorem fs_way_of {P : Program} {w : World} {K : PySem.W.Frag} {mg : Str → Option Value} {base : Heap} {cl : Nat → Addr} (T : TX K mg cl)  (E : XK) : FS ⟨P, w, K, mg, base, ["one", "other"], defScope s_way_of, 0, cl, E, fun _ => true, [], .none, ""⟩ (defBody s_way_of) b_way_of :=
  (fs_cons (fs_if (ft_gt (fe_var 1) (fe_var 0)) (fs_one (fs_ret fe_int)) fs_nil) (fs_one (fs_ret (fe_ite (ft_lt (fe_var 1) (fe_var 0)) (fe_neg fe_int) fe_int))))
theorem fn_way_of {P : Program} {w : World} {K : PySem.W.Frag} {mg : Str → Option Value} {base : Heap} {cl : Nat → Addr} {a : Addr} {fd : FuncData} (T : TX K mg cl)  (Fn : Fun K "way_of" "way_of" s_way_of a fd) (hm : mg "way_of" = some (.ref a)) (hb : Binds K fd ["one", "other"] []) : FnD P w K mg base cl 1 "way_of" F_way_of :=
  fnD Fn sc_way_of hm hb (by decide) (fs_way_of T )
theorem sc_motion : FnScope ["low", "low_next", "high", "high_next", "low_way", "high_way"] ["low", "low_next", "high", "high_next"] (defScope s_motion) := ⟨rfl, rfl, rfl, by decide +kernel, rfl, by decide +kernel, by decide +kernel⟩
def b_motion : Fo := (seqS (thenS (callM F_way_of (consM (varM 0) (consM (varM 1) (pureM [])))) fun d δ => some (.nx (δ.set 4 (.val d)))) (seqS (thenS (callM F_way_of (consM (varM 2) (consM (varM 3) (pureM [])))) fun d δ => some (.nx (δ.set 5 (.val d)))) (seqS (thenS (andT (tst (bin2 eqD (varM 4) (pureM (.int 0)))) (tst (bin2 eqD (varM 5) (pureM (.int 0))))) fun k => if k then (thenS (pureM (.str "still")) fun d _ => some (.rt d)) else nxS) (seqS (thenS (orT (tst (bin2 eqD (varM 4) (pureM (.int 0)))) (tst (bin2 eqD (varM 5) (pureM (.int 0))))) fun k => if k then (thenS (pureM (.str "one")) fun d _ => some (.rt d)) else nxS) (seqS (thenS (tst (bin2 neD (varM 4) (varM 5))) fun k => if k then (thenS (pureM (.str "apart")) fun d _ => some (.rt d)) else nxS) (thenS (iteM (tst (bin2 eqD (callM F_size (consM (varM 0) (consM (varM 1) (pureM [])))) (callM F_size (consM (varM 2) (consM (varM 3) (pureM [])))))) (pureM (.str "alike")) (pureM (.str "along"))) fun d _ => some (.rt d)))))))
def F_motion : DF := defF ["low", "low_next", "high", "high_next", "low_way", "high_way"] 4 b_motion
theorem fs_motion {P : Program} {w : World} {K : PySem.W.Frag} {mg : Str → Option Value} {base : Heap} {cl : Nat → Addr} (T : TX K mg cl) (d_size : FnD P w K mg base cl 1 "size" F_size) (d_way_of : FnD P w K mg base cl 1 "way_of" F_way_of) (E : XK) : FS ⟨P, w, K, mg, base, ["low", "low_next", "high", "high_next", "low_way", "high_way"], defScope s_motion, 1, cl, E, fun _ => true, [], .none, ""⟩ (defBody s_motion) b_motion :=
  (fs_cons (fs_set 4 sc_motion.nd (fe_call d_way_of (fa_cons (fe_var 0) (fa_cons (fe_var 1) fa_nil)))) (fs_cons (fs_set 5 sc_motion.nd (fe_call d_way_of (fa_cons (fe_var 2) (fa_cons (fe_var 3) fa_nil)))) (fs_cons (fs_if (ft_w (fw_and (ft_eq (fe_var 4) fe_int) (fw_and1 (ft_eq (fe_var 5) fe_int)))) (fs_one (fs_ret fe_str)) fs_nil) (fs_cons (fs_if (ft_w (fw_or (ft_eq (fe_var 4) fe_int) (fw_or1 (ft_eq (fe_var 5) fe_int)))) (fs_one (fs_ret fe_str)) fs_nil) (fs_cons (fs_if (ft_ne (fe_var 4) (fe_var 5)) (fs_one (fs_ret fe_str)) fs_nil) (fs_one (fs_ret (fe_ite (ft_eq (fe_call d_size (fa_cons (fe_var 0) (fa_cons (fe_var 1) fa_nil))) (fe_call d_size (fa_cons (fe_var 2) (fa_cons (fe_var 3) fa_nil)))) fe_str fe_str))))))))
theorem fn_motion {P : Program} {w : World} {K : PySem.W.Frag} {mg : Str → Option Value} {base : Heap} {cl : Nat → Addr} {a : Addr} {fd : FuncData} (T : TX K mg cl) (d_size : FnD P w K mg base cl 1 "size" F_size) (d_way_of : FnD P w K mg base cl 1 "way_of" F_way_of) (Fn : Fun K "motion" "motion" s_motion a fd) (hm : mg "motion" = some (.ref a)) (hb : Binds K fd ["low", "low_next", "high", "high_next"] []) : FnD P w K mg base cl 2 "motion" F_motion :=
  fnD Fn sc_motion hm hb (by decide) (fs_motion T d_size d_way_of)
theorem sc_goes_one_way : FnScope ["low", "low_next", "high", "high_next"] ["low", "low_next", "high", "high_next"] (defScope s_goes_one_way) := ⟨rfl, rfl, rfl, by decide +kernel, rfl, by decide +kernel, by decide +kernel⟩
def b_goes_one_way : Fo := (thenS (bin2 (inD false) (callM F_motion (consM (varM 0) (consM (varM 1) (consM (varM 2) (consM (varM 3) (pureM [])))))) (tupM (consM (pureM (.str "along")) (consM (pureM (.str "alike")) (pureM []))))) fun d _ => some (.rt d))
def F_goes_one_way : DF := defF ["low", "low_next", "high", "high_next"] 4 b_goes_one_way
theorem fs_goes_one_way {P : Program} {w : World} {K : PySem.W.Frag} {mg : Str → Option Value} {base : Heap} {cl : Nat → Addr} (T : TX K mg cl) (d_motion : FnD P w K mg base cl 2 "motion" F_motion) (E : XK) : FS ⟨P, w, K, mg, base, ["low", "low_next", "high", "high_next"], defScope s_goes_one_way, 2, cl, E, fun _ => true, [], .none, ""⟩ (defBody s_goes_one_way) b_goes_one_way :=
  (fs_one (fs_ret (fe_in (fe_call d_motion (fa_cons (fe_var 0) (fa_cons (fe_var 1) (fa_cons (fe_var 2) (fa_cons (fe_var 3) fa_nil))))) (fe_tup (fa_cons fe_str (fa_cons fe_str fa_nil))))))
theorem fn_goes_one_way {P : Program} {w : World} {K : PySem.W.Frag} {mg : Str → Option Value} {base : Heap} {cl : Nat → Addr} {a : Addr} {fd : FuncData} (T : TX K mg cl) (d_motion : FnD P w K mg base cl 2 "motion" F_motion) (Fn : Fun K "goes_one_way" "goes_one_way" s_goes_one_way a fd) (hm : mg "goes_one_way" = some (.ref a)) (hb : Binds K fd ["low", "low_next", "high", "high_next"] []) : FnD P w K mg base cl 3 "goes_one_way" F_goes_one_way :=
  fnD Fn sc_goes_one_way hm hb (by decide) (fs_goes_one_way T d_motion)
theorem sc_runs_alike : FnScope ["low", "low_next", "high", "high_next"] ["low", "low_next", "high", "high_next"] (defScope s_runs_alike) := ⟨rfl, rfl, rfl, by decide +kernel, rfl, by decide +kernel, by decide +kernel⟩
def b_runs_alike : Fo := (seqS (thenS (orT (tst (bin2 eqD (varM 0) (varM 1))) (tst (bin2 eqD (varM 2) (varM 3)))) fun k => if k then (thenS (pureM (.bl false)) fun d _ => some (.rt d)) else nxS) (thenS (andM (callM F_is_perfect (consM (varM 0) (consM (varM 2) (pureM [])))) (bin2 eqD (callM F_simple (consM (varM 0) (consM (varM 2) (pureM [])))) (callM F_simple (consM (varM 1) (consM (varM 3) (pureM [])))))) fun d _ => some (.rt d)))
def F_runs_alike : DF := defF ["low", "low_next", "high", "high_next"] 4 b_runs_alike
theorem fs_runs_alike {P : Program} {w : World} {K : PySem.W.Frag} {mg : Str → Option Value} {base : Heap} {cl : Nat → Addr} (T : TX K mg cl) (d_is_perfect : FnD P w K mg base cl 3 "is_perfect" F_is_perfect) (d_simple : FnD P w K mg base cl 2 "simple" F_simple) (E : XK) : FS ⟨P, w, K, mg, base, ["low", "low_next", "high", "high_next"], defScope s_runs_alike, 3, cl, E, fun _ => true, [], .none, ""⟩ (defBody s_runs_alike) b_runs_alike :=
  (fs_cons (fs_if (ft_w (fw_or (ft_eq (fe_var 0) (fe_var 1)) (fw_or1 (ft_eq (fe_var 2) (fe_var 3))))) (fs_one (fs_ret fe_bl)) fs_nil) (fs_one (fs_ret (fe_and (fe_call d_is_perfect (fa_cons (fe_var 0) (fa_cons (fe_var 2) fa_nil))) (fe_one (fe_eq (fe_call d_simple (fa_cons (fe_var 0) (fa_cons (fe_var 2) fa_nil))) (fe_call d_simple (fa_cons (fe_var 1) (fa_cons (fe_var 3) fa_nil)))))))))
theorem fn_runs_alike {P : Program} {w : World} {K : PySem.W.Frag} {mg : Str → Option Value} {base : Heap} {cl : Nat → Addr} {a : Addr} {fd : FuncData} (T : TX K mg cl) (d_is_perfect : FnD P w K mg base cl 3 "is_perfect" F_is_perfect) (d_simple : FnD P w K mg base cl 2 "simple" F_simple) (Fn : Fun K "runs_alike" "runs_alike" s_runs_alike a fd) (hm : mg "runs_alike" = some (.ref a)) (hb : Binds K fd ["low", "low_next", "high", "high_next"] []) : FnD P w K mg base cl 4 "runs_alike" F_runs_alike :=
  fnD Fn sc_runs_alike hm hb (by decide) (fs_runs_alike T d_is_perfect d_simple)
theorem sc_falls_into : FnScope ["low", "low_next", "high", "high_next"] ["low", "low_next", "high", "high_next"] (defScope s_falls_into) := ⟨rfl, rfl, rfl, by decide +kernel, rfl, by decide +kernel, by decide +kernel⟩
def b_falls_into : Fo := (seqS (thenS (orT (bindM (tst (callM F_is_perfect (consM (varM 1) (consM (varM 3) (pureM []))))) fun k => pureM (!k)) (tst (callM F_is_step (consM (varM 2) (consM (varM 3) (pureM [])))))) fun k => if k then (thenS (pureM (.bl false)) fun d _ => some (.rt d)) else nxS) (thenS (callM F_goes_one_way (consM (varM 0) (consM (varM 1) (consM (varM 2) (consM (varM 3) (pureM [])))))) fun d _ => some (.rt d)))
def F_falls_into : DF := defF ["low", "low_next", "high", "high_next"] 4 b_falls_into
theorem fs_falls_into {P : Program} {w : World} {K : PySem.W.Frag} {mg : Str → Option Value} {base : Heap} {cl : Nat → Addr} (T : TX K mg cl) (d_goes_one_way : FnD P w K mg base cl 3 "goes_one_way" F_goes_one_way) (d_is_perfect : FnD P w K mg base cl 3 "is_perfect" F_is_perfect) (d_is_step : FnD P w K mg base cl 2 "is_step" F_is_step) (E : XK) : FS ⟨P, w, K, mg, base, ["low", "low_next", "high", "high_next"], defScope s_falls_into, 3, cl, E, fun _ => true, [], .none, ""⟩ (defBody s_falls_into) b_falls_into :=
  (fs_cons (fs_if (ft_w (fw_or (ft_not (ft_val (fe_call d_is_perfect (fa_cons (fe_var 1) (fa_cons (fe_var 3) fa_nil))))) (fw_or1 (ft_val (fe_call d_is_step (fa_cons (fe_var 2) (fa_cons (fe_var 3) fa_nil))))))) (fs_one (fs_ret fe_bl)) fs_nil) (fs_one (fs_ret (fe_call d_goes_one_way (fa_cons (fe_var 0) (fa_cons (fe_var 1) (fa_cons (fe_var 2) (fa_cons (fe_var 3) fa_nil))))))))
theorem fn_falls_into {P : Program} {w : World} {K : PySem.W.Frag} {mg : Str → Option Value} {base : Heap} {cl : Nat → Addr} {a : Addr} {fd : FuncData} (T : TX K mg cl) (d_goes_one_way : FnD P w K mg base cl 3 "goes_one_way" F_goes_one_way) (d_is_perfect : FnD P w K mg base cl 3 "is_perfect" F_is_perfect) (d_is_step : FnD P w K mg base cl 2 "is_step" F_is_step) (Fn : Fun K "falls_into" "falls_into" s_falls_into a fd) (hm : mg "falls_into" = some (.ref a)) (hb : Binds K fd ["low", "low_next", "high", "high_next"] []) : FnD P w K mg base cl 4 "falls_into" F_falls_into :=
  fnD Fn sc_falls_into hm hb (by decide) (fs_falls_into T d_goes_one_way d_is_perfect d_is_step)
theorem sc_inverted : FnScope ["steps"] ["steps"] (defScope s_inverted) := ⟨rfl, rfl, rfl, by decide +kernel, rfl, by decide +kernel, by decide +kernel⟩
def b_inverted : Fo := (seqS (thenS (bindM (tst (chainM leD ltD (pureM (.int 0)) (varM 0) (pureM (.int 12)))) fun k => pureM (!k)) fun k => if k then (fun _ => some (.ex 6)) else nxS) (thenS (bin2 modD (bin2 subD (pureM (.int 12)) (varM 0)) (pureM (.int 12))) fun d _ => some (.rt d)))
def F_inverted : DF := defF ["steps"] 1 b_inverted
theorem fs_inverted {P : Program} {w : World} {K : PySem.W.Frag} {mg : Str → Option Value} {base : Heap} {cl : Nat → Addr} (T : TX K mg cl)  (E : XK) : FS ⟨P, w, K, mg, base, ["steps"], defScope s_inverted, 0, cl, E, fun _ => true, [], .none, ""⟩ (defBody s_inverted) b_inverted :=
  (fs_cons (fs_if (ft_not (ft_lelt fe_int (fe_var 0) fe_int)) (fs_one (fs_raise 6 T.x_BadSize)) fs_nil) (fs_one (fs_ret (fe_mod (fe_sub fe_int (fe_var 0)) fe_int))))
theorem fn_inverted {P : Program} {w : World} {K : PySem.W.Frag} {mg : Str → Option Value} {base : Heap} {cl : Nat → Addr} {a : Addr} {fd : FuncData} (T : TX K mg cl)  (Fn : Fun K "inverted" "inverted" s_inverted a fd) (hm : mg "inverted" = some (.ref a)) (hb : Binds K fd ["steps"] []) : FnD P w K mg base cl 1 "inverted" F_inverted :=
  fnD Fn sc_inverted hm hb (by decide) (fs_inverted T )
theorem sc_shape : FnScope ["tune", "one", "other"] ["tune"] (defScope s_shape) := ⟨rfl, rfl, rfl, by decide +kernel, rfl, by decide +kernel, by decide +kernel⟩
def b_shape : Fo := (thenS (callB tupleD (consM (lcM [1, 2] (bTup (bCons (bName 1) (bCons (bName 2) (bNil)))) (pureM true) (callM F_way_of (consM (varM 1) (consM (varM 2) (pureM [])))) (itM zipD (consM (varM 0) (consM (bindM (varM 0) fun d => bindM (intM (pureM (.int 1))) fun l => bindM (pureM none) fun h => liftO (slD d l h)) (pureM []))))) (pureM []))) fun d _ => some (.rt d))
def F_shape : DF := defF ["tune", "one", "other"] 1 b_shape
theorem fs_shape {P : Program} {w : World} {K : PySem.W.Frag} {mg : Str → Option Value} {base : Heap} {cl : Nat → Addr} (T : TX K mg cl) (d_way_of : FnD P w K mg base cl 1 "way_of" F_way_of) (E : XK) : FS ⟨P, w, K, mg, base, ["tune", "one", "other"], defScope s_shape, 1, cl, E, fun _ => true, [], .none, ""⟩ (defBody s_shape) b_shape :=
  (fs_one (fs_ret (fe_tuple T.b_tuple (fa_cons (fe_lc [("one", 1), ("other", 2)] sc_shape.nd (fi_zip T.b_zip (fa_cons (fe_var 0) (fa_cons (fe_slice (fe_var 0) (fo_some fe_int) fo_none) fa_nil))) (by kernel_rfl) (fg_tup (fgs_cons (fg_name 1 sc_shape.nd) (fgs_cons (fg_name 2 sc_shape.nd) fgs_nil))) fts_nil (fe_call d_way_of (fa_cons (fe_var 1) (fa_cons (fe_var 2) fa_nil))) (by decide)) fa_nil))))
theorem fn_shape {P : Program} {w : World} {K : PySem.W.Frag} {mg : Str → Option Value} {base : Heap} {cl : Nat → Addr} {a : Addr} {fd : FuncData} (T : TX K mg cl) (d_way_of : FnD P w K mg base cl 1 "way_of" F_way_of) (Fn : Fun K "shape" "shape" s_shape a fd) (hm : mg "shape" = some (.ref a)) (hb : Binds K fd ["tune"] []) : FnD P w K mg base cl 2 "shape" F_shape :=
  fnD Fn sc_shape hm hb (by decide) (fs_shape T d_way_of)
theorem sc_moves : FnScope ["tune", "one", "other"] ["tune"] (defScope s_moves) := ⟨rfl, rfl, rfl, by decide +kernel, rfl, by decide +kernel, by decide +kernel⟩
def b_moves : Fo := (thenS (callB tupleD (consM (lcM [1, 2] (bTup (bCons (bName 1) (bCons (bName 2) (bNil)))) (pureM true) (bin2 subD (varM 2) (varM 1)) (itM zipD (consM (varM 0) (consM (bindM (varM 0) fun d => bindM (intM (pureM (.int 1))) fun l => bindM (pureM none) fun h => liftO (slD d l h)) (pureM []))))) (pureM []))) fun d _ => some (.rt d))
def F_moves : DF := defF ["tune", "one", "other"] 1 b_moves
theorem fs_moves {P : Program} {w : World} {K : PySem.W.Frag} {mg : Str → Option Value} {base : Heap} {cl : Nat → Addr} (T : TX K mg cl)  (E : XK) : FS ⟨P, w, K, mg, base, ["tune", "one", "other"], defScope s_moves, 0, cl, E, fun _ => true, [], .none, ""⟩ (defBody s_moves) b_moves :=
  (fs_one (fs_ret (fe_tuple T.b_tuple (fa_cons (fe_lc [("one", 1), ("other", 2)] sc_moves.nd (fi_zip T.b_zip (fa_cons (fe_var 0) (fa_cons (fe_slice (fe_var 0) (fo_some fe_int) fo_none) fa_nil))) (by kernel_rfl) (fg_tup (fgs_cons (fg_name 1 sc_moves.nd) (fgs_cons (fg_name 2 sc_moves.nd) fgs_nil))) fts_nil (fe_sub (fe_var 2) (fe_var 1)) (by decide)) fa_nil))))
theorem fn_moves {P : Program} {w : World} {K : PySem.W.Frag} {mg : Str → Option Value} {base : Heap} {cl : Nat → Addr} {a : Addr} {fd : FuncData} (T : TX K mg cl)  (Fn : Fun K "moves" "moves" s_moves a fd) (hm : mg "moves" = some (.ref a)) (hb : Binds K fd ["tune"] []) : FnD P w K mg base cl 1 "moves" F_moves :=
  fnD Fn sc_moves hm hb (by decide) (fs_moves T )
theorem sc_span : FnScope ["tune"] ["tune"] (defScope s_span) := ⟨rfl, rfl, rfl, by decide +kernel, rfl, by decide +kernel, by decide +kernel⟩
def b_span : Fo := (seqS (thenS (tst (bin2 eqD (callB lenD (consM (varM 0) (pureM []))) (pureM (.int 0)))) fun k => if k then (fun _ => some (.ex 6)) else nxS) (thenS (bin2 subD (callB maxD (consM (varM 0) (pureM []))) (callB minD (consM (varM 0) (pureM [])))) fun d _ => some (.rt d)))
def F_span : DF := defF ["tune"] 1 b_span
theorem fs_span {P : Program} {w : World} {K : PySem.W.Frag} {mg : Str → Option Value} {base : Heap} {cl : Nat → Addr} (T : TX K mg cl)  (E : XK) : FS ⟨P, w, K, mg, base, ["tune"], defScope s_span, 0, cl, E, fun _ => true, [], .none, ""⟩ (defBody s_span) b_span :=
  (fs_cons (fs_if (ft_eq (fe_len T.b_len (fa_cons (fe_var 0) fa_nil)) fe_int) (fs_one (fs_raise 6 T.x_BadSize)) fs_nil) (fs_one (fs_ret (fe_sub (fe_max T.b_max (fa_cons (fe_var 0) fa_nil)) (fe_min T.b_min (fa_cons (fe_var 0) fa_nil))))))
theorem fn_span {P : Program} {w : World} {K : PySem.W.Frag} {mg : Str → Option Value} {base : Heap} {cl : Nat → Addr} {a : Addr} {fd : FuncData} (T : TX K mg cl)  (Fn : Fun K "span" "span" s_span a fd) (hm : mg "span" = some (.ref a)) (hb : Binds K fd ["tune"] []) : FnD P w K mg base cl 1 "span" F_span :=
  fnD Fn sc_span hm hb (by decide) (fs_span T )
theorem sc_top_places : FnScope ["tune", "top", "place", "note"] ["tune"] (defScope s_top_places) := ⟨rfl, rfl, rfl, by decide +kernel, rfl, by decide +kernel, by decide +kernel⟩
def b_top_places : Fo := (seqS (thenS (maxDfM (varM 0) (pureM .non)) fun d δ => some (.nx (δ.set 1 (.val d)))) (thenS (callB tupleD (consM (lcM [2, 3] (bTup (bCons (bName 2) (bCons (bName 3) (bNil)))) (tst (bin2 eqD (varM 3) (varM 1))) (varM 2) (itM enumD (consM (varM 0) (pureM [])))) (pureM []))) fun d _ => some (.rt d)))
def F_top_places : DF := defF ["tune", "top", "place", "note"] 1 b_top_places
theorem fs_top_places {P : Program} {w : World} {K : PySem.W.Frag} {mg : Str → Option Value} {base : Heap} {cl : Nat → Addr} (T : TX K mg cl)  (E : XK) : FS ⟨P, w, K, mg, base, ["tune", "top", "place", "note"], defScope s_top_places, 0, cl, E, fun _ => true, [], .none, ""⟩ (defBody s_top_places) b_top_places :=
  (fs_cons (fs_set 1 sc_top_places.nd (fe_maxDf T.b_max (fe_var 0) fe_non)) (fs_one (fs_ret (fe_tuple T.b_tuple (fa_cons (fe_lc [("place", 2), ("note", 3)] sc_top_places.nd (fi_enum T.b_enumerate (fa_cons (fe_var 0) fa_nil)) (by kernel_rfl) (fg_tup (fgs_cons (fg_name 2 sc_top_places.nd) (fgs_cons (fg_name 3 sc_top_places.nd) fgs_nil))) (fts_one (ft_eq (fe_var 3) (fe_var 1))) (fe_var 2) (by decide)) fa_nil)))))
theorem fn_top_places {P : Program} {w : World} {K : PySem.W.Frag} {mg : Str → Option Value} {base : Heap} {cl : Nat → Addr} {a : Addr} {fd : FuncData} (T : TX K mg cl)  (Fn : Fun K "top_places" "top_places" s_top_places a fd) (hm : mg "top_places" = some (.ref a)) (hb : Binds K fd ["tune"] []) : FnD P w K mg base cl 1 "top_places" F_top_places :=
  fnD Fn sc_top_places hm hb (by decide) (fs_top_places T )
theorem sc__law_dice : FnScope ["cell"] ["cell"] (defScope s__law_dice) := ⟨rfl, rfl, rfl, by decide +kernel, rfl, by decide +kernel, by decide +kernel⟩
def b__law_dice : Fo := (seqS (thenS (tst (chainM ltD ltD (bin2 subD (pureM (.int 0)) (pureM (.int 10))) (varM 0) (pureM (.int 10)))) fun k => if k then (thenS (lstM (consM (callB absD (consM (varM 0) (pureM []))) (consM (pureM (.int 0)) (consM (pureM (.int 2)) (pureM []))))) fun d _ => some (.rt d)) else nxS) (thenS (lstM (consM (varM 0) (consM (bin2 addD (pureM (.int 1)) (bin2 modD (callB intD (consM (varM 0) (pureM []))) (pureM (.int 1009)))) (consM (callB intD (consM (bin2 geD (varM 0) (bin2 powD (pureM (.int 10)) (pureM (.int 18)))) (pureM []))) (pureM []))))) fun d _ => some (.rt d)))
def F__law_dice : DF := defF ["cell"] 1 b__law_dice
theorem fs__law_dice {P : Program} {w : World} {K : PySem.W.Frag} {mg : Str → Option Value} {base : Heap} {cl : Nat → Addr} (T : TX K mg cl)  (E : XK) : FS ⟨P, w, K, mg, base, ["cell"], defScope s__law_dice, 0, cl, E, fun _ => true, [], .none, ""⟩ (defBody s__law_dice) b__law_dice :=
  (fs_cons (fs_if (ft_ltlt (fe_sub fe_int fe_int) (fe_var 0) fe_int) (fs_one (fs_ret (fe_lst (fa_cons (fe_abs T.b_abs (fa_cons (fe_var 0) fa_nil)) (fa_cons fe_int (fa_cons fe_int fa_nil)))))) fs_nil) (fs_one (fs_ret (fe_lst (fa_cons (fe_var 0) (fa_cons (fe_add fe_int (fe_mod (fe_int1 T.b_int (fa_cons (fe_var 0) fa_nil)) fe_int)) (fa_cons (fe_int1 T.b_int (fa_cons (fe_ge (fe_var 0) (fe_pow fe_int fe_int)) fa_nil)) fa_nil)))))))
theorem fn__law_dice {P : Program} {w : World} {K : PySem.W.Frag} {mg : Str → Option Value} {base : Heap} {cl : Nat → Addr} {a : Addr} {fd : FuncData} (T : TX K mg cl)  (Fn : Fun K "_law_dice" "_law_dice" s__law_dice a fd) (hm : mg "_law_dice" = some (.ref a)) (hb : Binds K fd ["cell"] []) : FnD P w K mg base cl 1 "_law_dice" F__law_dice :=
  fnD Fn sc__law_dice hm hb (by decide) (fs__law_dice T )
abbrev s_law : Stmt := topS 35
abbrev s__law_roll : Stmt := topS 32
abbrev s__law_rounds : Stmt := topS 33
abbrev s__law_told : Stmt := topS 34
theorem sc__law_roll : FnScope ["dice", "many", "found"] ["dice", "many"] (defScope s__law_roll) := ⟨rfl, rfl, rfl, by decide +kernel, rfl, by decide +kernel, by decide +kernel⟩
theorem at3 (a b d : V) (k : Nat) (v : V) (h : [a, b, d][k]? = some v) : atI [a, b, d] (k : Int) = some v := atI_nat h
theorem ok_roll {P : Program} {w : World} {K : PySem.W.Frag} {mg : Str → Option Value} {base : Heap} {a : Addr} {fd : FuncData} (F : Fun K "_law_roll" "_law_roll" s__law_roll a fd) (hi : mg "int" = none) : FnOk P w K mg base (L2.CX P w) 1 a fd ["dice", "many"] spRoll := by
  refine F.okX sc__law_roll (fun vs H Q E h => ?_) (fun cdv A outer s H vs Q E hr h => ?_)
  · obtain ⟨p, x, y, z, m, rfl, _⟩ := h
    rfl
  · refine ⟨_, pss_cons (ps_if (PW.pt (pw_or (pt_cmpR op_eq (pe_ix ix_list (pv 0) pe_int (fun _ _ => rfl)) pe_int (nomark _)) (pw_or1 (PW.pt (pw_and (pt_cmpR op_eq (pe_ix ix_list (pv 0) pe_int (fun _ _ => rfl)) pe_int (nomark _)) (pw_and1 (pt_cmpR op_gt (pe_ix ix_list (pv 0) pe_int (fun _ _ => rfl)) pe_int (nomark _))))))))
        (pss_cons (ps_set (i := 2) sc__law_roll.nd rfl (Or.inl rfl) (pe_op op_mod (pe_callTy call_int1 (by rfl) hi PyProof.Rows.boot_int (pa_cons (pe_ix ix_list (pv 0) pe_int (fun _ _ => rfl)) pa_nil)) (pv 1)))
        (pss_cons (ps_asg (pe_op op_fdiv (pe_ix ix_list (pv 0) pe_int (fun _ _ => rfl)) (pv 1)) (pg_sub (pv 0) pe_int set_list))
        (pss_one (ps_ret (pv 2))))) pss_nil)
      (pss_cons (ps_asg pe_int (pg_sub (pv 0) pe_int set_list))
      (pss_cons (ps_asg (pe_op op_mod (pe_callTy call_int1 (by rfl) hi PyProof.Rows.boot_int (pa_cons (pe_op op_add (pe_op op_add (pe_op op_mul (pe_ix ix_list (pv 0) pe_int (fun _ _ => rfl)) pe_int) (pe_op op_mul (pe_ix ix_list (pv 0) pe_int (fun _ _ => rfl)) pe_int)) pe_int) pa_nil)) pe_int) (pg_sub (pv 0) pe_int set_list))
      (pss_cons (ps_asg (pe_op op_add (pe_ix ix_list (pv 0) pe_int (fun _ _ => rfl)) pe_int) (pg_sub (pv 0) pe_int set_list))
      (pss_one (ps_ret (pe_op op_mod (pe_callTy call_int1 (by rfl) hi PyProof.Rows.boot_int (pa_cons (pe_op op_add (pe_op op_fdiv (pe_ix ix_list (pv 0) pe_int (fun _ _ => rfl)) pe_int) (pe_ix ix_list (pv 0) pe_int (fun _ _ => rfl))) pa_nil)) (pv 1))))))), ?_⟩
    obtain ⟨p, x, y, z, m, rfl, hp, m0, m1, q⟩ := h
    have sq : ∀ {H' : Hp} {a b d : Int}, H' p = some (ints3 a b d) → SqL K H' p [.int a, .int b, .int d] := fun h => .inl (.inl h)
    refine ⟨_, rfl, p, _, _, _, rfl, rfl, sq hp, atI_nat (j := 2) rfl, rfl, _, rfl, ?_⟩
    refine ite2 (fun e => ?_) (fun e => ?_)
    · have hz2 : z = 2 := V.int.inj (of_decide_eq_true e)
      have hc : z = 2 ∨ (z = 1 ∧ 0 < x) := .inl hz2
      refine iteT ?_
      refine ⟨_, rfl, p, _, _, _, rfl, rfl, sq hp, atI_nat (j := 0) rfl, .inl ⟨_, rfl, _, rfl, _, _, rfl, rfl, m0, ?_⟩⟩
      refine ⟨_, rfl, p, _, _, _, rfl, rfl, sq hp, atI_nat (j := 0) rfl, _, rfl, _, _, rfl, rfl, ⟨m0, m1⟩, _, rfl, p, _, _, 0, rfl, rfl, hp, rfl, _, rfl, ?_⟩
      simp only [rollF, if_pos hc] at q
      exact q
    · have hz2 : z ≠ 2 := fun h => e (by rw [h]; exact decide_eq_true rfl)
      refine ⟨_, rfl, p, _, _, _, rfl, rfl, sq hp, atI_nat (j := 2) rfl, rfl, _, rfl, ?_⟩
      refine ite2 (fun e1 => ?_) (fun e1 => ?_)
      · have hz1 : z = 1 := V.int.inj (of_decide_eq_true e1)
        refine ⟨_, rfl, p, _, _, _, rfl, rfl, sq hp, atI_nat (j := 0) rfl, _, _, rfl, rfl, _, rfl, ?_⟩
        by_cases hx : 0 < x
        · rw [decide_eq_true hx]
          have hc : z = 2 ∨ (z = 1 ∧ 0 < x) := .inr ⟨hz1, hx⟩
          refine iteT ?_
          refine ⟨_, rfl, p, _, _, _, rfl, rfl, sq hp, atI_nat (j := 0) rfl, .inl ⟨_, rfl, _, rfl, _, _, rfl, rfl, m0, ?_⟩⟩
          refine ⟨_, rfl, p, _, _, _, rfl, rfl, sq hp, atI_nat (j := 0) rfl, _, rfl, _, _, rfl, rfl, ⟨m0, m1⟩, _, rfl, p, _, _, 0, rfl, rfl, hp, rfl, _, rfl, ?_⟩
          simp only [rollF, if_pos hc] at q
          exact q
        · rw [decide_eq_false hx]
          have hc : ¬ (z = 2 ∨ (z = 1 ∧ 0 < x)) := by omega
          refine iteF ?_
          refine ⟨_, rfl, p, _, 2, 2, rfl, rfl, hp, rfl, ?_⟩
          have h1 : (upd H p (.lst [.int x, .int y, .int 0])) p = some (ints3 x y 0) := upd_same
          refine ⟨_, rfl, p, _, 0, _, rfl, rfl, sq h1, atI_nat (j := 0) rfl, _, _, rfl, rfl, .inr ⟨by decide, by decide⟩, _, rfl, p, _, 1, _, rfl, rfl, sq h1, atI_nat (j := 1) rfl, _, _, rfl, rfl, .inr ⟨by decide, by decide⟩, _, _, rfl, rfl, _, _, rfl, rfl, .inl ⟨_, rfl, _, _, rfl, rfl, (by show (0 : Int) < 2147483647; decide), ?_⟩⟩
          refine ⟨_, rfl, p, _, 0, 0, rfl, rfl, h1, rfl, ?_⟩
          have h2 : (upd (upd H p (.lst [.int x, .int y, .int 0])) p (.lst [.int ((x * 48271 + y * 69621 + 11) % 2147483647), .int y, .int 0])) p = some (ints3 ((x * 48271 + y * 69621 + 11) % 2147483647) y 0) := upd_same
          refine ⟨_, rfl, p, _, 1, _, rfl, rfl, sq h2, atI_nat (j := 1) rfl, _, _, rfl, rfl, _, rfl, p, _, 1, 1, rfl, rfl, h2, rfl, ?_⟩
          have h3 : (upd (upd (upd H p (.lst [.int x, .int y, .int 0])) p (.lst [.int ((x * 48271 + y * 69621 + 11) % 2147483647), .int y, .int 0])) p (.lst [.int ((x * 48271 + y * 69621 + 11) % 2147483647), .int (y + 1), .int 0])) p = some (ints3 ((x * 48271 + y * 69621 + 11) % 2147483647) (y + 1) 0) := upd_same
          refine ⟨_, rfl, p, _, 0, _, rfl, rfl, sq h3, atI_nat (j := 0) rfl, _, _, rfl, rfl, ⟨by decide, by decide⟩, _, rfl, p, _, 0, _, rfl, rfl, sq h3, atI_nat (j := 0) rfl, _, _, rfl, rfl, .inl ⟨_, rfl, _, rfl, _, _, rfl, rfl, m0, ?_⟩⟩
          simp only [rollF, if_neg hc] at q
          have e3 : upd (upd (upd H p (.lst [.int x, .int y, .int 0])) p (.lst [.int ((x * 48271 + y * 69621 + 11) % 2147483647), .int y, .int 0])) p (.lst [.int ((x * 48271 + y * 69621 + 11) % 2147483647), .int (y + 1), .int 0]) = upd H p (ints3 ((x * 48271 + y * 69621 + 11) % 2147483647) (y + 1) 0) := by rw [upd_upd, upd_upd]; rfl
          rw [← e3] at q
          exact q
      · have hz1 : z ≠ 1 := fun h => e1 (by rw [h]; exact decide_eq_true rfl)
        have hc : ¬ (z = 2 ∨ (z = 1 ∧ 0 < x)) := by omega
        refine iteF ?_
        refine ⟨_, rfl, p, _, 2, 2, rfl, rfl, hp, rfl, ?_⟩
        have h1 : (upd H p (.lst [.int x, .int y, .int 0])) p = some (ints3 x y 0) := upd_same
        refine ⟨_, rfl, p, _, 0, _, rfl, rfl, sq h1, atI_nat (j := 0) rfl, _, _, rfl, rfl, .inr ⟨by decide, by decide⟩, _, rfl, p, _, 1, _, rfl, rfl, sq h1, atI_nat (j := 1) rfl, _, _, rfl, rfl, .inr ⟨by decide, by decide⟩, _, _, rfl, rfl, _, _, rfl, rfl, .inl ⟨_, rfl, _, _, rfl, rfl, (by show (0 : Int) < 2147483647; decide), ?_⟩⟩
        refine ⟨_, rfl, p, _, 0, 0, rfl, rfl, h1, rfl, ?_⟩
        have h2 : (upd (upd H p (.lst [.int x, .int y, .int 0])) p (.lst [.int ((x * 48271 + y * 69621 + 11) % 2147483647), .int y, .int 0])) p = some (ints3 ((x * 48271 + y * 69621 + 11) % 2147483647) y 0) := upd_same
        refine ⟨_, rfl, p, _, 1, _, rfl, rfl, sq h2, atI_nat (j := 1) rfl, _, _, rfl, rfl, _, rfl, p, _, 1, 1, rfl, rfl, h2, rfl, ?_⟩
        have h3 : (upd (upd (upd H p (.lst [.int x, .int y, .int 0])) p (.lst [.int ((x * 48271 + y * 69621 + 11) % 2147483647), .int y, .int 0])) p (.lst [.int ((x * 48271 + y * 69621 + 11) % 2147483647), .int (y + 1), .int 0])) p = some (ints3 ((x * 48271 + y * 69621 + 11) % 2147483647) (y + 1) 0) := upd_same
        refine ⟨_, rfl, p, _, 0, _, rfl, rfl, sq h3, atI_nat (j := 0) rfl, _, _, rfl, rfl, ⟨by decide, by decide⟩, _, rfl, p, _, 0, _, rfl, rfl, sq h3, atI_nat (j := 0) rfl, _, _, rfl, rfl, .inl ⟨_, rfl, _, rfl, _, _, rfl, rfl, m0, ?_⟩⟩
        simp only [rollF, if_neg hc] at q
        have e3 : upd (upd (upd H p (.lst [.int x, .int y, .int 0])) p (.lst [.int ((x * 48271 + y * 69621 + 11) % 2147483647), .int y, .int 0])) p (.lst [.int ((x * 48271 + y * 69621 + 11) % 2147483647), .int (y + 1), .int 0]) = upd H p (ints3 ((x * 48271 + y * 69621 + 11) % 2147483647) (y + 1) 0) := by rw [upd_upd, upd_upd]; rfl
        rw [← e3] at q
        exact q

theorem sc__law_rounds : FnScope ["script", "most", "cells", "cell"] ["script", "most"] (defScope s__law_rounds) := ⟨rfl, rfl, rfl, by decide +kernel, rfl, by decide +kernel, by decide +kernel⟩
def b_rounds : Fo := (seqS (thenS (tst (bin2 eqD (varM 2) (lstM (pureM [])))) fun k => if k then (thenS (lstM (consM (pureM (.int 0)) (pureM []))) fun d δ => some (.nx (δ.set 2 (.val d)))) else nxS) (thenS (lcM [3] (bName 3) (pureM true) (callM F__law_dice (consM (varM 3) (pureM []))) (seqM (varM 2))) fun d _ => some (.rt d)))
theorem fs_rounds {P : Program} {w : World} {K : PySem.W.Frag} {mg : Str → Option Value} {base : Heap} {cl : Nat → Addr} (T : TX K mg cl) (d__law_dice : FnD P w K mg base cl 1 "_law_dice" F__law_dice) (E : XK) : FS ⟨P, w, K, mg, base, ["script", "most", "cells", "cell"], defScope s__law_rounds, 1, cl, E, fun _ => true, [], .none, ""⟩ (defBody s__law_rounds).tail b_rounds :=
  (fs_cons (fs_if (ft_eq (fe_var 2) (fe_lst fa_nil)) (fs_one (fs_set 2 sc__law_rounds.nd (fe_lst (fa_cons fe_int fa_nil)))) fs_nil) (fs_one (fs_ret (fe_lc [("cell", 3)] sc__law_rounds.nd (fi_seq (fe_var 2)) (by kernel_rfl) (fg_name 3 sc__law_rounds.nd) fts_nil (fe_call d__law_dice (fa_cons (fe_var 3) fa_nil)) (by decide)))))
abbrev NL : List (Nat × Str) := [(1, "note"), (2, "time"), (3, "line"), (4, "none"), (5, "paper"), (6, "size"), (7, "text"), (8, "store"), (9, "no such")]
theorem sc_law : FnScope ["script", "dice", "gap", "due", "alike_now", "falls_now", "tune", "step", "a", "b", "c", "d", "first", "second", "k"] ["script"] (defScope s_law) := ⟨rfl, rfl, rfl, by decide +kernel, rfl, by decide +kernel, by decide +kernel⟩
def b_body : Fo := (seqS (thenS (lcM [14] (bName 14) (pureM true) (bin2 addD (pureM (.int 40)) (rollM 1 (pureM (.int 14)))) (itM rng1 (consM (pureM (.int 4)) (pureM [])))) fun d δ => (bTup (bCons (bName 8) (bCons (bName 9) (bCons (bName 10) (bCons (bName 11) (bNil))))) d δ).map .nx) (seqS (thenS (callB absD (consM (bin2 subD (varM 8) (varM 9)) (pureM []))) fun d δ => some (.nx (δ.set 2 (.val d)))) (seqS (thenS (orT (tst (bin2 neD (callM F_size (consM (varM 8) (consM (varM 9) (pureM [])))) (varM 2))) (orT (tst (bin2 neD (callM F_simple (consM (varM 8) (consM (varM 9) (pureM [])))) (bin2 modD (varM 2) (pureM (.int 12))))) (tst (bin2 neD (callM F_way_of (consM (varM 8) (consM (varM 9) (pureM [])))) (iteM (tst (bin2 gtD (varM 9) (varM 8))) (pureM (.int 1)) (iteM (tst (bin2 ltD (varM 9) (varM 8))) (bin2 subD (pureM (.int 0)) (pureM (.int 1))) (pureM (.int 0)))))))) fun k => if k then (thenS (pureM (.bl false)) fun d _ => some (.rt d)) else nxS) (seqS (thenS (orT (tst (bin2 neD (callM F_goes_together (consM (varM 8) (consM (varM 9) (pureM [])))) (bin2 (inD false) (bin2 modD (varM 2) (pureM (.int 12))) (lstM (consM (pureM (.int 0)) (consM (pureM (.int 3)) (consM (pureM (.int 4)) (consM (pureM (.int 7)) (consM (pureM (.int 8)) (consM (pureM (.int 9)) (pureM []))))))))))) (orT (tst (bin2 neD (callM F_is_perfect (consM (varM 8) (consM (varM 9) (pureM [])))) (bin2 (inD false) (bin2 modD (varM 2) (pureM (.int 12))) (lstM (consM (pureM (.int 0)) (consM (pureM (.int 7)) (pureM []))))))) (orT (tst (bin2 neD (callM F_is_step (consM (varM 8) (consM (varM 9) (pureM [])))) (bin2 (inD false) (varM 2) (lstM (consM (pureM (.int 1)) (consM (pureM (.int 2)) (pureM []))))))) (tst (bin2 neD (callM F_is_leap (consM (varM 8) (consM (varM 9) (pureM [])))) (bin2 gtD (varM 2) (pureM (.int 4)))))))) fun k => if k then (thenS (pureM (.bl false)) fun d _ => some (.rt d)) else nxS) (seqS (thenS (consM (callM F_way_of (consM (varM 8) (consM (varM 9) (pureM [])))) (consM (callM F_way_of (consM (varM 10) (consM (varM 11) (pureM [])))) (pureM []))) fun ds δ => match ds with | [d, e] => some (.nx ((δ.set 12 (.val d)).set 13 (.val e))) | _ => none) (seqS (thenS (iteM (andT (tst (bin2 eqD (varM 12) (pureM (.int 0)))) (tst (bin2 eqD (varM 13) (pureM (.int 0))))) (pureM (.str "still")) (iteM (tst (bin2 (inD false) (pureM (.int 0)) (lstM (consM (varM 12) (consM (varM 13) (pureM [])))))) (pureM (.str "one")) (iteM (tst (bin2 neD (varM 12) (varM 13))) (pureM (.str "apart")) (iteM (tst (bin2 eqD (bin2 subD (varM 9) (varM 8)) (bin2 subD (varM 11) (varM 10)))) (pureM (.str "alike")) (pureM (.str "along")))))) fun d δ => some (.nx (δ.set 3 (.val d)))) (seqS (thenS (tst (bin2 neD (callM F_motion (consM (varM 8) (consM (varM 9) (consM (varM 10) (consM (varM 11) (pureM [])))))) (varM 3))) fun k => if k then (thenS (pureM (.bl false)) fun d _ => some (.rt d)) else nxS) (seqS (thenS (andM (callM F_is_perfect (consM (varM 8) (consM (varM 10) (pureM [])))) (andM (callM F_is_perfect (consM (varM 9) (consM (varM 11) (pureM [])))) (andM (bin2 neD (varM 8) (varM 9)) (andM (bin2 neD (varM 10) (varM 11)) (bin2 eqD (bin2 modD (callB absD (consM (bin2 subD (varM 8) (varM 10)) (pureM []))) (pureM (.int 12))) (bin2 modD (callB absD (consM (bin2 subD (varM 9) (varM 11)) (pureM []))) (pureM (.int 12)))))))) fun d δ => some (.nx (δ.set 4 (.val d)))) (seqS (thenS (andM (callM F_is_perfect (consM (varM 9) (consM (varM 11) (pureM [])))) (andM (bin2 (inD false) (varM 3) (lstM (consM (pureM (.str "along")) (consM (pureM (.str "alike")) (pureM []))))) (bin2 gtD (callB absD (consM (bin2 subD (varM 10) (varM 11)) (pureM []))) (pureM (.int 2))))) fun d δ => some (.nx (δ.set 5 (.val d)))) (seqS (thenS (orT (tst (bin2 neD (callM F_runs_alike (consM (varM 8) (consM (varM 9) (consM (varM 10) (consM (varM 11) (pureM [])))))) (varM 4))) (tst (bin2 neD (callM F_falls_into (consM (varM 8) (consM (varM 9) (consM (varM 10) (consM (varM 11) (pureM [])))))) (varM 5)))) fun k => if k then (thenS (pureM (.bl false)) fun d _ => some (.rt d)) else nxS) (seqS (thenS (lcM [14] (bName 14) (pureM true) (bin2 addD (pureM (.int 40)) (rollM 1 (pureM (.int 14)))) (itM rng1 (consM (rollM 1 (pureM (.int 8))) (pureM [])))) fun d δ => some (.nx (δ.set 6 (.val d)))) (seqS (thenS (orT (tst (bin2 neD (callB listD (consM (callM F_moves (consM (varM 6) (pureM []))) (pureM []))) (lcM [14] (bName 14) (pureM true) (bin2 subD (bin2 ixD (varM 6) (bin2 addD (varM 14) (pureM (.int 1)))) (bin2 ixD (varM 6) (varM 14))) (itM rng1 (consM (bin2 subD (callB lenD (consM (varM 6) (pureM []))) (pureM (.int 1))) (pureM [])))))) (tst (bin2 neD (callB listD (consM (callM F_shape (consM (varM 6) (pureM []))) (pureM []))) (lcM [14] (bName 14) (pureM true) (callM F_way_of (consM (bin2 ixD (varM 6) (varM 14)) (consM (bin2 ixD (varM 6) (bin2 addD (varM 14) (pureM (.int 1)))) (pureM [])))) (itM rng1 (consM (bin2 subD (callB lenD (consM (varM 6) (pureM []))) (pureM (.int 1))) (pureM []))))))) fun k => if k then (thenS (pureM (.bl false)) fun d _ => some (.rt d)) else nxS) (seqS (thenS (andT (tst (bin2 neD (varM 6) (lstM (pureM [])))) (orT (tst (bin2 neD (callM F_span (consM (varM 6) (pureM []))) (bin2 subD (callB maxD (consM (varM 6) (pureM []))) (callB minD (consM (varM 6) (pureM [])))))) (tst (bin2 neD (callB listD (consM (callM F_top_places (consM (varM 6) (pureM []))) (pureM []))) (lcM [14] (bName 14) (tst (bin2 eqD (bin2 ixD (varM 6) (varM 14)) (callB maxD (consM (varM 6) (pureM []))))) (varM 14) (itM rng1 (consM (callB lenD (consM (varM 6) (pureM []))) (pureM [])))))))) fun k => if k then (thenS (pureM (.bl false)) fun d _ => some (.rt d)) else nxS) (seqS (thenS (rollM 1 (pureM (.int 12))) fun d δ => some (.nx (δ.set 7 (.val d)))) (thenS (orT (tst (bin2 neD (callM F_inverted (consM (callM F_inverted (consM (varM 7) (pureM []))) (pureM []))) (varM 7))) (tst (bin2 neD (bin2 modD (bin2 addD (callM F_inverted (consM (varM 7) (pureM []))) (varM 7)) (pureM (.int 12))) (pureM (.int 0))))) fun k => if k then (thenS (pureM (.bl false)) fun d _ => some (.rt d)) else nxS)))))))))))))))
theorem fs_body {P : Program} {w : World} {K : PySem.W.Frag} {mg : Str → Option Value} {base : Heap} {cl : Nat → Addr} {C Pt : Addr} (T : TX K mg cl) (d_falls_into : FnD P w K mg base cl 4 "falls_into" F_falls_into) (d_goes_together : FnD P w K mg base cl 3 "goes_together" F_goes_together) (d_inverted : FnD P w K mg base cl 1 "inverted" F_inverted) (d_is_leap : FnD P w K mg base cl 2 "is_leap" F_is_leap) (d_is_perfect : FnD P w K mg base cl 3 "is_perfect" F_is_perfect) (d_is_step : FnD P w K mg base cl 2 "is_step" F_is_step) (d_motion : FnD P w K mg base cl 2 "motion" F_motion) (d_moves : FnD P w K mg base cl 1 "moves" F_moves) (d_runs_alike : FnD P w K mg base cl 4 "runs_alike" F_runs_alike) (d_shape : FnD P w K mg base cl 2 "shape" F_shape) (d_simple : FnD P w K mg base cl 2 "simple" F_simple) (d_size : FnD P w K mg base cl 1 "size" F_size) (d_span : FnD P w K mg base cl 1 "span" F_span) (d_top_places : FnD P w K mg base cl 1 "top_places" F_top_places) (d_way_of : FnD P w K mg base cl 1 "way_of" F_way_of) (RD : RollD P w K mg base) (TD : ToldD P w K mg base cl NL) (tb : LamX.TabB base mg C Pt) (E : XK) :
  FS ⟨P, w, K, mg, base, ["script", "dice", "gap", "due", "alike_now", "falls_now", "tune", "step", "a", "b", "c", "d", "first", "second", "k"], defScope s_law, 7, cl, E, fun _ => true, [(Pt, (("law" : Str) ++ (".<locals>." : Str)) ++ "<lambda>")], .ref C, ("law" : Str) ++ (".<locals>." : Str)⟩ (forBody (defBody s_law)) b_body :=
  have LD : LamD ⟨P, w, K, mg, base, ["script", "dice", "gap", "due", "alike_now", "falls_now", "tune", "step", "a", "b", "c", "d", "first", "second", "k"], defScope s_law, 7, cl, E, fun _ => true, [(Pt, (("law" : Str) ++ (".<locals>." : Str)) ++ "<lambda>")], .ref C, ("law" : Str) ++ (".<locals>." : Str)⟩ C Pt := ⟨rfl, rfl, tb⟩
  (fs_cons (fs_asg (fe_lc [("k", 14)] sc_law.nd (fi_range1 T.b_range (fa_cons fe_int fa_nil)) (by kernel_rfl) (fg_name 14 sc_law.nd) fts_nil (fe_add fe_int (fe_roll 1 RD fe_int)) (by decide)) (fg_tup (fgs_cons (fg_name 8 sc_law.nd) (fgs_cons (fg_name 9 sc_law.nd) (fgs_cons (fg_name 10 sc_law.nd) (fgs_cons (fg_name 11 sc_law.nd) fgs_nil)))))) (fs_cons (fs_set 2 sc_law.nd (fe_abs T.b_abs (fa_cons (fe_sub (fe_var 8) (fe_var 9)) fa_nil))) (fs_cons (fs_if (ft_w (fw_or (ft_ne (fe_call d_size (fa_cons (fe_var 8) (fa_cons (fe_var 9) fa_nil))) (fe_var 2)) (fw_or (ft_ne (fe_call d_simple (fa_cons (fe_var 8) (fa_cons (fe_var 9) fa_nil))) (fe_mod (fe_var 2) fe_int)) (fw_or1 (ft_ne (fe_call d_way_of (fa_cons (fe_var 8) (fa_cons (fe_var 9) fa_nil))) (fe_ite (ft_gt (fe_var 9) (fe_var 8)) fe_int (fe_ite (ft_lt (fe_var 9) (fe_var 8)) (fe_sub fe_int fe_int) fe_int))))))) (fs_one (fs_ret fe_bl)) fs_nil) (fs_cons (fs_if (ft_w (fw_or (ft_ne (fe_call d_goes_together (fa_cons (fe_var 8) (fa_cons (fe_var 9) fa_nil))) (fe_in (fe_mod (fe_var 2) fe_int) (fe_lst (fa_cons fe_int (fa_cons fe_int (fa_cons fe_int (fa_cons fe_int (fa_cons fe_int (fa_cons fe_int fa_nil))))))))) (fw_or (ft_ne (fe_call d_is_perfect (fa_cons (fe_var 8) (fa_cons (fe_var 9) fa_nil))) (fe_in (fe_mod (fe_var 2) fe_int) (fe_lst (fa_cons fe_int (fa_cons fe_int fa_nil))))) (fw_or (ft_ne (fe_call d_is_step (fa_cons (fe_var 8) (fa_cons (fe_var 9) fa_nil))) (fe_in (fe_var 2) (fe_lst (fa_cons fe_int (fa_cons fe_int fa_nil))))) (fw_or1 (ft_ne (fe_call d_is_leap (fa_cons (fe_var 8) (fa_cons (fe_var 9) fa_nil))) (fe_gt (fe_var 2) fe_int))))))) (fs_one (fs_ret fe_bl)) fs_nil) (fs_cons (fs_par 12 13 sc_law.nd (fa_cons (fe_call d_way_of (fa_cons (fe_var 8) (fa_cons (fe_var 9) fa_nil))) (fa_cons (fe_call d_way_of (fa_cons (fe_var 10) (fa_cons (fe_var 11) fa_nil))) fa_nil)) (hw := fun env h => by first | rfl | (cases env; cases h; rfl))) (fs_cons (fs_set 3 sc_law.nd (fe_ite (ft_w (fw_and (ft_eq (fe_var 12) fe_int) (fw_and1 (ft_eq (fe_var 13) fe_int)))) fe_str (fe_ite (ft_in fe_int (fe_lst (fa_cons (fe_var 12) (fa_cons (fe_var 13) fa_nil)))) fe_str (fe_ite (ft_ne (fe_var 12) (fe_var 13)) fe_str (fe_ite (ft_eq (fe_sub (fe_var 9) (fe_var 8)) (fe_sub (fe_var 11) (fe_var 10))) fe_str fe_str))))) (fs_cons (fs_if (ft_ne (fe_call d_motion (fa_cons (fe_var 8) (fa_cons (fe_var 9) (fa_cons (fe_var 10) (fa_cons (fe_var 11) fa_nil))))) (fe_var 3)) (fs_one (fs_ret fe_bl)) fs_nil) (fs_cons (fs_set 4 sc_law.nd (fe_and (fe_call d_is_perfect (fa_cons (fe_var 8) (fa_cons (fe_var 10) fa_nil))) (fe_and (fe_call d_is_perfect (fa_cons (fe_var 9) (fa_cons (fe_var 11) fa_nil))) (fe_and (fe_ne (fe_var 8) (fe_var 9)) (fe_and (fe_ne (fe_var 10) (fe_var 11)) (fe_one (fe_eq (fe_mod (fe_abs T.b_abs (fa_cons (fe_sub (fe_var 8) (fe_var 10)) fa_nil)) fe_int) (fe_mod (fe_abs T.b_abs (fa_cons (fe_sub (fe_var 9) (fe_var 11)) fa_nil)) fe_int)))))))) (fs_cons (fs_set 5 sc_law.nd (fe_and (fe_call d_is_perfect (fa_cons (fe_var 9) (fa_cons (fe_var 11) fa_nil))) (fe_and (fe_in (fe_var 3) (fe_lst (fa_cons fe_str (fa_cons fe_str fa_nil)))) (fe_one (fe_gt (fe_abs T.b_abs (fa_cons (fe_sub (fe_var 10) (fe_var 11)) fa_nil)) fe_int))))) (fs_cons (fs_if (ft_w (fw_or (ft_ne (fe_call d_runs_alike (fa_cons (fe_var 8) (fa_cons (fe_var 9) (fa_cons (fe_var 10) (fa_cons (fe_var 11) fa_nil))))) (fe_var 4)) (fw_or1 (ft_ne (fe_call d_falls_into (fa_cons (fe_var 8) (fa_cons (fe_var 9) (fa_cons (fe_var 10) (fa_cons (fe_var 11) fa_nil))))) (fe_var 5))))) (fs_one (fs_ret fe_bl)) fs_nil) (fs_cons (fs_set 6 sc_law.nd (fe_lc [("k", 14)] sc_law.nd (fi_range1 T.b_range (fa_cons (fe_roll 1 RD fe_int) fa_nil)) (by kernel_rfl) (fg_name 14 sc_law.nd) fts_nil (fe_add fe_int (fe_roll 1 RD fe_int)) (by decide)) (hs := fun env h => sw_false (by rw [h]; rfl))) (fs_cons (fs_if (ft_w (fw_or (ft_ne (fe_list T.b_list (fa_cons (fe_call d_moves (fa_cons (fe_var 6) fa_nil)) fa_nil)) (fe_lc [("k", 14)] sc_law.nd (fi_range1 T.b_range (fa_cons (fe_sub (fe_len T.b_len (fa_cons (fe_var 6) fa_nil)) fe_int) fa_nil)) (by kernel_rfl) (fg_name 14 sc_law.nd) fts_nil (fe_sub (fe_ix (fe_var 6) (fe_add (fe_var 14) fe_int)) (fe_ix (fe_var 6) (fe_var 14))) (by decide))) (fw_or1 (ft_ne (fe_list T.b_list (fa_cons (fe_call d_shape (fa_cons (fe_var 6) fa_nil)) fa_nil)) (fe_lc [("k", 14)] sc_law.nd (fi_range1 T.b_range (fa_cons (fe_sub (fe_len T.b_len (fa_cons (fe_var 6) fa_nil)) fe_int) fa_nil)) (by kernel_rfl) (fg_name 14 sc_law.nd) fts_nil (fe_call d_way_of (fa_cons (fe_ix (fe_var 6) (fe_var 14)) (fa_cons (fe_ix (fe_var 6) (fe_add (fe_var 14) fe_int)) fa_nil))) (by decide)))))) (fs_one (fs_ret fe_bl)) fs_nil) (fs_cons (fs_if (ft_w (fw_and (ft_ne (fe_var 6) (fe_lst fa_nil)) (fw_and1 (ft_w (fw_or (ft_ne (fe_call d_span (fa_cons (fe_var 6) fa_nil)) (fe_sub (fe_max T.b_max (fa_cons (fe_var 6) fa_nil)) (fe_min T.b_min (fa_cons (fe_var 6) fa_nil)))) (fw_or1 (ft_ne (fe_list T.b_list (fa_cons (fe_call d_top_places (fa_cons (fe_var 6) fa_nil)) fa_nil)) (fe_lc [("k", 14)] sc_law.nd (fi_range1 T.b_range (fa_cons (fe_len T.b_len (fa_cons (fe_var 6) fa_nil)) fa_nil)) (by kernel_rfl) (fg_name 14 sc_law.nd) (fts_one (ft_eq (fe_ix (fe_var 6) (fe_var 14)) (fe_max T.b_max (fa_cons (fe_var 6) fa_nil)))) (fe_var 14) (by decide))))))))) (fs_one (fs_ret fe_bl)) fs_nil) (fs_cons (fs_set 7 sc_law.nd (fe_roll 1 RD fe_int)) (fs_one (fs_if (ft_w (fw_or (ft_ne (fe_call d_inverted (fa_cons (fe_call d_inverted (fa_cons (fe_var 7) fa_nil)) fa_nil)) (fe_var 7)) (fw_or1 (ft_ne (fe_mod (fe_add (fe_call d_inverted (fa_cons (fe_var 7) fa_nil)) (fe_var 7)) fe_int) fe_int)))) (fs_one (fs_ret fe_bl)) fs_nil))))))))))))))))
def b_rest : Fo := (seqS (thenS (bindM (tst (bin2 eqD (toldM NL (callM F_span (consM (lstM (pureM [])) (pureM [])))) (pureM (.str "size")))) fun k => pureM (!k)) fun k => if k then (thenS (pureM (.bl false)) fun d _ => some (.rt d)) else nxS) (seqS (thenS (bindM (tst (bin2 eqD (toldM NL (callM F_inverted (consM (pureM (.int 12)) (pureM [])))) (pureM (.str "size")))) fun k => pureM (!k)) fun k => if k then (thenS (pureM (.bl false)) fun d _ => some (.rt d)) else nxS) (seqS (thenS (bindM (tst (bin2 eqD (callM F_top_places (consM (lstM (pureM [])) (pureM []))) (tupM (pureM [])))) fun k => pureM (!k)) fun k => if k then (thenS (pureM (.bl false)) fun d _ => some (.rt d)) else nxS) (thenS (bin2 eqD (callM F_moves (consM (lstM (consM (pureM (.int 5)) (pureM []))) (pureM []))) (tupM (pureM []))) fun d _ => some (.rt d)))))
theorem fs_rest {P : Program} {w : World} {K : PySem.W.Frag} {mg : Str → Option Value} {base : Heap} {cl : Nat → Addr} {C Pt : Addr} (T : TX K mg cl) (d_falls_into : FnD P w K mg base cl 4 "falls_into" F_falls_into) (d_goes_together : FnD P w K mg base cl 3 "goes_together" F_goes_together) (d_inverted : FnD P w K mg base cl 1 "inverted" F_inverted) (d_is_leap : FnD P w K mg base cl 2 "is_leap" F_is_leap) (d_is_perfect : FnD P w K mg base cl 3 "is_perfect" F_is_perfect) (d_is_step : FnD P w K mg base cl 2 "is_step" F_is_step) (d_motion : FnD P w K mg base cl 2 "motion" F_motion) (d_moves : FnD P w K mg base cl 1 "moves" F_moves) (d_runs_alike : FnD P w K mg base cl 4 "runs_alike" F_runs_alike) (d_shape : FnD P w K mg base cl 2 "shape" F_shape) (d_simple : FnD P w K mg base cl 2 "simple" F_simple) (d_size : FnD P w K mg base cl 1 "size" F_size) (d_span : FnD P w K mg base cl 1 "span" F_span) (d_top_places : FnD P w K mg base cl 1 "top_places" F_top_places) (d_way_of : FnD P w K mg base cl 1 "way_of" F_way_of) (RD : RollD P w K mg base) (TD : ToldD P w K mg base cl NL) (tb : LamX.TabB base mg C Pt) (E : XK) :
  FS ⟨P, w, K, mg, base, ["script", "dice", "gap", "due", "alike_now", "falls_now", "tune", "step", "a", "b", "c", "d", "first", "second", "k"], defScope s_law, 7, cl, E, fun _ => true, [(Pt, (("law" : Str) ++ (".<locals>." : Str)) ++ "<lambda>")], .ref C, ("law" : Str) ++ (".<locals>." : Str)⟩ ((defBody s_law).tail) b_rest :=
  have LD : LamD ⟨P, w, K, mg, base, ["script", "dice", "gap", "due", "alike_now", "falls_now", "tune", "step", "a", "b", "c", "d", "first", "second", "k"], defScope s_law, 7, cl, E, fun _ => true, [(Pt, (("law" : Str) ++ (".<locals>." : Str)) ++ "<lambda>")], .ref C, ("law" : Str) ++ (".<locals>." : Str)⟩ C Pt := ⟨rfl, rfl, tb⟩
  (fs_cons (fs_if (ft_not (ft_eq (fe_told 4 TD LD (fun E => (fe_call d_span (fa_cons (fe_lst fa_nil) fa_nil)))) fe_str)) (fs_one (fs_ret fe_bl)) fs_nil) (fs_cons (fs_if (ft_not (ft_eq (fe_told 4 TD LD (fun E => (fe_call d_inverted (fa_cons fe_int fa_nil)))) fe_str)) (fs_one (fs_ret fe_bl)) fs_nil) (fs_cons (fs_if (ft_not (ft_eq (fe_call d_top_places (fa_cons (fe_lst fa_nil) fa_nil)) (fe_tup fa_nil))) (fs_one (fs_ret fe_bl)) fs_nil) (fs_one (fs_ret (fe_eq (fe_call d_moves (fa_cons (fe_lst (fa_cons fe_int fa_nil)) fa_nil)) (fe_tup fa_nil)))))))
theorem e_size (a b : Int) : F_size [.int a, .int b] = some (.ret (.int (absI (b - a)))) := rfl
theorem e_simple (a b : Int) : F_simple [.int a, .int b] = some (.ret (.int (absI (b - a) % 12))) := rfl
def way (a b : Int) : Int := if a < b then 1 else if b < a then -1 else 0
theorem e_way (a b : Int) : F_way_of [.int a, .int b] = some (.ret (.int (way a b))) := by
  unfold way
  by_cases h1 : a < b <;> by_cases h2 : b < a <;> simp [F_way_of, b_way_of, defF, startD, seqS, thenS, FL.bindM, pureM, varM, liftO, FL.consM, callM, resM, callB, bin2, un1, tst, toB, FL.andM, FL.orM, FL.notM, andT, orT, iteM, chainM, tupM, lstM, intM, subD, mulD, modD, fdivD, addD, ltD, leD, gtD, geD, eqD_int, neD_int, eqD_bl, neD_bl, negD, int2, int2C, absD, lenD, FL.intD, outRes, nxS, bName, bTup, bCons, bNil, seqOf, h1, h2]
def perf (r : Int) : Bool := 0 == r || 7 == r
def goes (r : Int) : Bool := perf r || (3 == r || (4 == r || (8 == r || 9 == r)))
theorem in2 (r : Int) : inD false (.int r) (.tup [.int 0, .int 7]) = some (.bl (perf r)) := by
  simp [inD, inB, flatOf, flatL, inV, eqV, perf]
theorem in4 (r : Int) : inD false (.int r) (.tup [.int 3, .int 4, .int 8, .int 9]) = some (.bl (3 == r || (4 == r || (8 == r || 9 == r)))) := by
  simp [inD, inB, flatOf, flatL, inV, eqV]
theorem e_perf (a b : Int) : F_is_perfect [.int a, .int b] = some (.ret (.bl (perf (absI (b - a) % 12)))) := by
  simp [F_is_perfect, b_is_perfect, defF, startD, seqS, thenS, FL.bindM, pureM, varM, liftO, FL.consM, callM, resM, callB, bin2, un1, tst, toB, FL.andM, FL.orM, FL.notM, andT, orT, iteM, chainM, tupM, lstM, intM, subD, mulD, modD, fdivD, addD, ltD, leD, gtD, geD, eqD_int, neD_int, eqD_bl, neD_bl, negD, int2, int2C, absD, lenD, FL.intD, outRes, nxS, bName, bTup, bCons, bNil, seqOf, e_simple, in2]
theorem e_goes (a b : Int) : F_goes_together [.int a, .int b] = some (.ret (.bl (goes (absI (b - a) % 12)))) := by
  unfold goes
  cases h : perf (absI (b - a) % 12) <;> simp [F_goes_together, b_goes_together, defF, startD, seqS, thenS, FL.bindM, pureM, varM, liftO, FL.consM, callM, resM, callB, bin2, un1, tst, toB, FL.andM, FL.orM, FL.notM, andT, orT, iteM, chainM, tupM, lstM, intM, subD, mulD, modD, fdivD, addD, ltD, leD, gtD, geD, eqD_int, neD_int, eqD_bl, neD_bl, negD, int2, int2C, absD, lenD, FL.intD, outRes, nxS, bName, bTup, bCons, bNil, seqOf, e_simple, in2, in4, h]
def stp (a b : Int) : Bool := decide (1 ≤ absI (b - a)) && decide (absI (b - a) ≤ 2)
theorem e_step (a b : Int) : F_is_step [.int a, .int b] = some (.ret (.bl (stp a b))) := by
  unfold stp
  by_cases h1 : 1 ≤ absI (b - a) <;> simp [F_is_step, b_is_step, defF, startD, seqS, thenS, FL.bindM, pureM, varM, liftO, FL.consM, callM, resM, callB, bin2, un1, tst, toB, FL.andM, FL.orM, FL.notM, andT, orT, iteM, chainM, tupM, lstM, intM, subD, mulD, modD, fdivD, addD, ltD, leD, gtD, geD, eqD_int, neD_int, eqD_bl, neD_bl, negD, int2, int2C, absD, lenD, FL.intD, outRes, nxS, bName, bTup, bCons, bNil, seqOf, e_size, h1]
theorem e_leap (a b : Int) : F_is_leap [.int a, .int b] = some (.ret (.bl (decide (4 < absI (b - a))))) := by
  simp [F_is_leap, b_is_leap, defF, startD, seqS, thenS, FL.bindM, pureM, varM, liftO, FL.consM, callM, resM, callB, bin2, un1, tst, toB, FL.andM, FL.orM, FL.notM, andT, orT, iteM, chainM, tupM, lstM, intM, subD, mulD, modD, fdivD, addD, ltD, leD, gtD, geD, eqD_int, neD_int, eqD_bl, neD_bl, negD, int2, int2C, absD, lenD, FL.intD, outRes, nxS, bName, bTup, bCons, bNil, seqOf, e_size]
inductive Mo | still | one | apart | along | alike
  deriving DecidableEq
def mstr : Mo → Str
  | .still => "still" | .one => "one" | .apart => "apart" | .along => "along" | .alike => "alike"
theorem mstr_ok (m : Mo) : PyData.strOk (mstr m) = true := by
  cases m <;> decide +kernel
theorem mstr_beq (m n : Mo) : (mstr m == mstr n) = decide (m = n) := by
  cases m <;> cases n <;> decide +kernel
theorem mstr_eq (m n : Mo) : eqB (.str (mstr m)) (.str (mstr n)) = some (decide (m = n)) := by
  rw [eqB_str (mstr_ok m) (mstr_ok n), mstr_beq]
theorem mstr_in (m : Mo) : inD false (.str (mstr m)) (.tup [.str "along", .str "alike"]) = some (.bl (decide (m = .along) || decide (m = .alike))) := by
  cases m <;> rfl
theorem mstr_inl (m : Mo) : inD false (.str (mstr m)) (.lst [.str "along", .str "alike"]) = some (.bl (decide (m = .along) || decide (m = .alike))) := by
  cases m <;> rfl
def mot (a b c d : Int) : Mo :=
  if way a b = 0 ∧ way c d = 0 then .still else if way a b = 0 ∨ way c d = 0 then .one else if way a b ≠ way c d then .apart else if absI (b - a) = absI (d - c) then .alike else .along
theorem e_mot (a b c d : Int) : F_motion [.int a, .int b, .int c, .int d] = some (.ret (.str (mstr (mot a b c d)))) := by
  unfold mot
  by_cases h1 : way a b = 0 <;> by_cases h2 : way c d = 0 <;> by_cases h3 : way a b = way c d <;> by_cases h4 : absI (b - a) = absI (d - c) <;>
    simp [F_motion, b_motion, defF, startD, seqS, thenS, FL.bindM, pureM, varM, liftO, FL.consM, callM, resM, callB, bin2, un1, tst, toB, FL.andM, FL.orM, FL.notM, andT, orT, iteM, chainM, tupM, lstM, intM, subD, mulD, modD, fdivD, addD, ltD, leD, gtD, geD, eqD_int, neD_int, eqD_bl, neD_bl, negD, int2, int2C, absD, lenD, FL.intD, outRes, nxS, bName, bTup, bCons, bNil, seqOf, e_way, e_size, h1, h2, h3, h4, mstr]
def ow (m : Mo) : Bool := decide (m = .along) || decide (m = .alike)
theorem e_ow (a b c d : Int) : F_goes_one_way [.int a, .int b, .int c, .int d] = some (.ret (.bl (ow (mot a b c d)))) := by
  unfold ow
  simp [F_goes_one_way, b_goes_one_way, defF, startD, seqS, thenS, FL.bindM, pureM, varM, liftO, FL.consM, callM, resM, callB, bin2, un1, tst, toB, FL.andM, FL.orM, FL.notM, andT, orT, iteM, chainM, tupM, lstM, intM, subD, mulD, modD, fdivD, addD, ltD, leD, gtD, geD, eqD_int, neD_int, eqD_bl, neD_bl, negD, int2, int2C, absD, lenD, FL.intD, outRes, nxS, bName, bTup, bCons, bNil, seqOf, e_mot, mstr_in]
def ra (a b c d : Int) : Bool := perf (absI (c - a) % 12) && (!(a == b) && (!(c == d) && absI (c - a) % 12 == absI (d - b) % 12))
theorem e_ra (a b c d : Int) : F_runs_alike [.int a, .int b, .int c, .int d] = some (.ret (.bl (ra a b c d))) := by
  unfold ra
  by_cases h1 : a = b <;> by_cases h2 : c = d <;> cases h3 : perf (absI (c - a) % 12) <;> simp [F_runs_alike, b_runs_alike, defF, startD, seqS, thenS, FL.bindM, pureM, varM, liftO, FL.consM, callM, resM, callB, bin2, un1, tst, toB, FL.andM, FL.orM, FL.notM, andT, orT, iteM, chainM, tupM, lstM, intM, subD, mulD, modD, fdivD, addD, ltD, leD, gtD, geD, eqD_int, neD_int, eqD_bl, neD_bl, negD, int2, int2C, absD, lenD, FL.intD, outRes, nxS, bName, bTup, bCons, bNil, seqOf, e_perf, e_simple, h1, h2, h3]
  rw [beq_false_of_ne h1, beq_false_of_ne h2]; rfl
def fi (a b c d : Int) : Bool := perf (absI (d - b) % 12) && (!stp c d && ow (mot a b c d))
theorem e_fi (a b c d : Int) : F_falls_into [.int a, .int b, .int c, .int d] = some (.ret (.bl (fi a b c d))) := by
  unfold fi
  cases h1 : perf (absI (d - b) % 12) <;> cases h2 : stp c d <;> simp [F_falls_into, b_falls_into, defF, startD, seqS, thenS, FL.bindM, pureM, varM, liftO, FL.consM, callM, resM, callB, bin2, un1, tst, toB, FL.andM, FL.orM, FL.notM, andT, orT, iteM, chainM, tupM, lstM, intM, subD, mulD, modD, fdivD, addD, ltD, leD, gtD, geD, eqD_int, neD_int, eqD_bl, neD_bl, negD, int2, int2C, absD, lenD, FL.intD, outRes, nxS, bName, bTup, bCons, bNil, seqOf, e_perf, e_step, e_ow, h1, h2]
theorem e_inv (r : Int) (h0 : 0 ≤ r) (h1 : r < 12) : F_inverted [.int r] = some (.ret (.int ((12 - r) % 12))) := by
  simp [F_inverted, b_inverted, defF, startD, seqS, thenS, FL.bindM, pureM, varM, liftO, FL.consM, callM, resM, callB, bin2, un1, tst, toB, FL.andM, FL.orM, FL.notM, andT, orT, iteM, chainM, tupM, lstM, intM, subD, mulD, modD, fdivD, addD, ltD, leD, gtD, geD, eqD_int, neD_int, eqD_bl, neD_bl, negD, int2, int2C, absD, lenD, FL.intD, outRes, nxS, bName, bTup, bCons, bNil, seqOf, h0, h1]
theorem absI_comm (a b : Int) : absI (a - b) = absI (b - a) := by unfold absI; split <;> split <;> omega

def mvF : D → D | .tup [.int a, .int b] => .int (b - a) | _ => .non
def shF : D → D | .tup [.int a, .int b] => .int (way a b) | _ => .non
theorem zip_items {t : List Int} {δ : De} (h0 : δ[0]? = some (.val (.lst (t.map .int)))) : itM zipD (consM (varM 0) (consM (bindM (varM 0) fun d => bindM (intM (pureM (.int 1))) fun l => bindM (pureM none) fun h => liftO (slD d l h)) (pureM []))) δ = some (.ok ((t.zip t.tail).map fun p => .tup [.int p.1, .int p.2]) δ) := by
  refine itM_of (ds := [.lst (t.map .int), .lst (t.tail.map .int)]) (cons_of (var_of h0) (one_of ?_)) ?_
  · rw [bindM_ok (var_of h0)]
    show liftO (slD (.lst (t.map .int)) (some 1) none) δ = _
    unfold slD
    dsimp only
    rw [cut_tail, List.map_tail]
    rfl
  · show some (zipL _ _) = _
    rw [zipL_ints]
theorem zip_len {t : List Int} (h : t.length < 1000000) : ((t.zip t.tail).map fun p => D.tup [.int p.1, .int p.2]).length < 1000000 := by
  rw [List.length_map, List.length_zip]; omega
theorem e_moves {t : List Int} (h : t.length < 1000000) : F_moves [.lst (t.map .int)] = some (.ret (.tup (((t.zip t.tail).map fun p => p.2 - p.1).map .int))) := by
  show outRes (b_moves [.val (.lst (t.map .int)), .un, .un]) = _
  unfold b_moves
  rw [thenS_ok (cb_of (one_of (lcM_map (g := mvF) (zip_items rfl) (zip_len h) rfl fun d hd => ?_)) rfl)]
  · show some (Res.ret _) = _
    rw [List.map_map, List.map_map]; rfl
  · obtain ⟨p, _, rfl⟩ := List.mem_map.mp hd
    obtain ⟨δ1, e1, rfl, e2, e3⟩ := bind2 (u := 1) (v := 2) (x := .int p.1) (y := .int p.2) (δ := [.val (.lst (t.map .int)), .un, .un]) (by decide)
    exact ⟨_, e1, e2, e3, rfl⟩
theorem e_shape {t : List Int} (h : t.length < 1000000) : F_shape [.lst (t.map .int)] = some (.ret (.tup (((t.zip t.tail).map fun p => way p.1 p.2).map .int))) := by
  show outRes (b_shape [.val (.lst (t.map .int)), .un, .un]) = _
  unfold b_shape
  rw [thenS_ok (cb_of (one_of (lcM_map (g := shF) (zip_items rfl) (zip_len h) rfl fun d hd => ?_)) rfl)]
  · show some (Res.ret _) = _
    rw [List.map_map, List.map_map]; rfl
  · obtain ⟨p, _, rfl⟩ := List.mem_map.mp hd
    obtain ⟨δ1, e1, rfl, e2, e3⟩ := bind2 (u := 1) (v := 2) (x := .int p.1) (y := .int p.2) (δ := [.val (.lst (t.map .int)), .un, .un]) (by decide)
    exact ⟨_, e1, e2, e3, call_of rfl (e_way _ _)⟩
theorem e_span {t : List Int} (h : t ≠ []) : F_span [.lst (t.map .int)] = some (.ret (.int (maxL t - minL t))) := by
  have hl : ((t.length : Int) == 0) = false := beq_false_of_ne (by have := List.length_pos_iff.mpr h; omega)
  show outRes (b_span [.val (.lst (t.map .int))]) = _
  unfold b_span
  rw [rt_seq (if_no (tst_of (bin2_of (d := .bl false) (cb_of (d := .int t.length) (one_of (var_of rfl)) (by show some (D.int _) = _; rw [List.length_map])) rfl (by rw [eqD_int, hl])))) (thenS_ok (bin2_of (cb_of (one_of (var_of rfl)) (maxL_eq h)) (cb_of (one_of (var_of rfl)) (minL_eq h)) rfl))]
  rfl
def topF : D → D | .tup [a, _] => a | _ => .non
def topP (m : Int) : D → Bool | .tup [_, .int b] => b == m | _ => false
def tops (t : List Int) : List Int := ((List.range t.length).filter fun k : Nat => t.getD k 0 == maxL t).map fun k : Nat => (k : Int)
theorem e_top {t : List Int} (h : t ≠ []) (hl : t.length < 1000000) : F_top_places [.lst (t.map .int)] = some (.ret (.tup ((tops t).map .int))) := by
  show outRes (b_top_places [.val (.lst (t.map .int)), .un, .un, .un]) = _
  unfold b_top_places
  have e1 : maxDfM (varM 0) (pureM .non) [.val (.lst (t.map .int)), .un, .un, .un] = some (.ok (.int (maxL t)) [.val (.lst (t.map .int)), .un, .un, .un]) := by
    unfold maxDfM
    rw [bindM_ok (var_of rfl), bindM_pure]
    dsimp only
    rw [intsOf_map]
    cases t with
    | nil => exact absurd rfl h
    | cons x r => rfl
  rw [rt_seq (thenS_ok e1) (thenS_ok (cb_of (one_of (lcM_filter (p := topP (maxL t)) (g := topF) (ds := enumFrom 0 (t.map .int)) (δ1 := [.val (.lst (t.map .int)), .val (.int (maxL t)), .un, .un]) (itM_of (one_of (var_of rfl)) rfl) (by rw [enumFrom_len, List.length_map]; exact hl) rfl fun d hd => ?_)) rfl))]
  · show some (Res.ret _) = _
    rw [enum_ints]
    unfold tops
    rw [List.filter_map, List.map_map, List.map_map]
    simp only [Nat.zero_add]
    rfl
  · obtain ⟨k, hk, rfl⟩ := enum_mem hd
    obtain ⟨δ1, e1, rfl, e2, e3⟩ := bind2 (u := 2) (v := 3) (x := .int k) (y := .int (t.getD k 0)) (δ := [.val (.lst (t.map .int)), .val (.int (maxL t)), .un, .un]) (by decide)
    exact ⟨_, e1, e2, e3, rfl, fun _ => rfl⟩

theorem rest_ok (δ : De) : b_rest δ = some (.rt (.bl true)) := by
  unfold b_rest
  rw [rt_seq (if_no (not_no (eq_of (told_ex (k := 6) (n := "size") rfl rfl) rfl (by rw [eqB_str (by decide +kernel) (by decide +kernel)]; exact congrArg some (by decide +kernel)))))
    (rt_seq (if_no (not_no (eq_of (told_ex (k := 6) (n := "size") rfl rfl) rfl (by rw [eqB_str (by decide +kernel) (by decide +kernel)]; exact congrArg some (by decide +kernel)))))
    (rt_seq (if_no (not_no (eq_of (call_of (one_of (lst_of rfl (by decide))) rfl) rfl eqB_tnil))) (thenS_ok (bin2_of (call_of (one_of (lst_of rfl (by decide))) (e_moves (t := [5]) (by decide))) rfl rfl))))]
  rfl
theorem e_dice (n : Int) : ∃ x y z : Int, F__law_dice [.int n] = some (.ret (.lst [.int x, .int y, .int z])) := by
  by_cases h1 : -10 < n <;> by_cases h2 : n < 10
  · exact ⟨absI n, 0, 2, by simp [F__law_dice, b__law_dice, defF, startD, seqS, thenS, FL.bindM, pureM, varM, liftO, FL.consM, callM, resM, callB, bin2, un1, tst, toB, FL.andM, FL.orM, FL.notM, andT, orT, iteM, chainM, tupM, lstM, intM, subD, mulD, modD, fdivD, addD, ltD, leD, gtD, geD, eqD_int, neD_int, eqD_bl, neD_bl, negD, int2, int2C, absD, lenD, FL.intD, outRes, nxS, bName, bTup, bCons, bNil, seqOf, h1, h2]⟩
  all_goals refine ⟨n, 1 + n % 1009, if 10 ^ 18 ≤ n then 1 else 0, ?_⟩
  all_goals by_cases h3 : (10 : Int) ^ 18 ≤ n <;> simp [F__law_dice, b__law_dice, defF, startD, seqS, thenS, FL.bindM, pureM, varM, liftO, FL.consM, callM, resM, callB, bin2, un1, tst, toB, FL.andM, FL.orM, FL.notM, andT, orT, iteM, chainM, tupM, lstM, intM, subD, mulD, modD, fdivD, addD, ltD, leD, gtD, geD, eqD_int, neD_int, eqD_bl, neD_bl, negD, int2, int2C, absD, lenD, FL.intD, outRes, nxS, bName, bTup, bCons, bNil, seqOf, h1, h2, powD, CPow] <;> split <;> simp_all
theorem finR (ns : List Int) : ∃ x y z, b_rounds [.un, .val (.int 1), .val (.lst ((ns.take 1).map D.int)), .un] = some (.rt (.lst [.lst [.int x, .int y, .int z]])) := by
  have key : ∀ n : Int, ∃ x y z, thenS (lcM [3] (bName 3) (pureM true) (callM F__law_dice (consM (varM 3) (pureM []))) (seqM (varM 2))) (fun d _ => some (.rt d)) [.un, .val (.int 1), .val (.lst [.int n]), .un] = some (.rt (.lst [.lst [.int x, .int y, .int z]])) := fun n => by
    obtain ⟨x, y, z, e⟩ := e_dice n
    refine ⟨x, y, z, ?_⟩
    rw [thenS_ok (lcM_map (g := fun _ => .lst [.int x, .int y, .int z]) (ds := [.int n]) (δ1 := [.un, .val (.int 1), .val (.lst [.int n]), .un]) rfl (by simp) rfl fun d hd => ?_)]
    · rfl
    · simp only [List.mem_singleton] at hd
      subst hd
      obtain ⟨δ1, e1, rfl, e2, e3⟩ := bind1 (v := 3) (d := .int n) (δ := [.un, .val (.int 1), .val (.lst [.int n]), .un])
      exact ⟨_, e1, e2, e3, call_of rfl e⟩
  cases ns with
  | nil =>
    obtain ⟨x, y, z, e⟩ := key 0
    exact ⟨x, y, z, e⟩
  | cons n r =>
    obtain ⟨x, y, z, e⟩ := key n
    refine ⟨x, y, z, ?_⟩
    show b_rounds [.un, .val (.int 1), .val (.lst [.int n]), .un] = _
    unfold b_rounds
    rw [rt_seq (if_no (eq_of (x := .lst [.int n]) (y := .lst []) (var_of rfl) (lst_of rfl (by decide)) (eqB_ints [n] []))) e]

theorem lcM_gap {t : List Int} {x : List D} {δ : De} {f : Int → Int → Int} {m : M D} (hx : δ[6]? = some (.val (.lst (t.map .int)))) (hl : t.length < 1000000) (hn : δ.length = 15) (ho : ownAt δ 14 = none)
    (hm : ∀ k : Nat, k + 1 < t.length → m (δ.set 14 (.val (.int k))) = some (.ok (.int (f (t.getD k 0) (t.getD (k + 1) 0))) (δ.set 14 (.val (.int k))))) :
    lcM [14] (bName 14) (pureM true) m (itM rng1 (consM (bin2 subD (callB lenD (consM (varM 6) (pureM []))) (pureM (.int 1))) (pureM []))) δ = some (.ok (.lst (((t.zip t.tail).map fun p => f p.1 p.2).map .int)) δ) := by
  have e : ((t.zip t.tail).map fun p => f p.1 p.2) = (List.range (t.length - 1)).map fun k => f (t.getD k 0) (t.getD (k + 1) 0) := by
    apply List.ext_getElem
    · simp
    · intro i h1 h2
      simp only [List.length_map, List.length_range] at h2
      simp [List.getD_eq_getElem?_getD, show i < t.length by omega, show i + 1 < t.length by omega]
  rw [e, List.map_map]
  have := lcM_map (vs := [14]) (bd := bName 14) (fe := m) (g := fun d => match d with | .int k => .int (f (t.getD k.toNat 0) (t.getD (k.toNat + 1) 0)) | _ => .non) (items := itM rng1 (consM (bin2 subD (callB lenD (consM (varM 6) (pureM []))) (pureM (.int 1))) (pureM []))) (δ := δ) (δ1 := δ) (ds := rangeL 0 (t.length - 1))
    (itM_of (one_of (bin2_of (d := .int ((t.length : Int) - 1)) (cb_of (d := .int t.length) (one_of (var_of hx)) (by show some (D.int _) = _; rw [List.length_map])) rfl rfl)) (rng1_pred hl)) (by rw [rangeL_len]; omega) (by unfold noOwn; simp [ho]) fun d hd => by
      obtain ⟨k, hk, rfl⟩ := rangeL_mem hd
      obtain ⟨δ1, e1, rfl, e2, e3⟩ := bind1 (v := 14) (d := .int (0 + k)) (δ := δ)
      refine ⟨_, e1, e2, e3, ?_⟩
      rw [Int.zero_add, hm k (by omega)]
      simp
  rw [this]
  unfold rangeL
  rw [List.map_map]
  congr 3
  apply List.map_congr_left
  intro k _
  simp
theorem lcM_tops {t : List Int} {δ : De} {tt : M Bool} (hx : δ[6]? = some (.val (.lst (t.map .int)))) (hl : t.length < 1000000) (ho : ownAt δ 14 = none) (hn : δ.length = 15)
    (hm : ∀ k : Nat, k < t.length → tt (δ.set 14 (.val (.int k))) = some (.ok (t.getD k 0 == maxL t) (δ.set 14 (.val (.int k))))) :
    lcM [14] (bName 14) tt (varM 14) (itM rng1 (consM (callB lenD (consM (varM 6) (pureM []))) (pureM []))) δ = some (.ok (.lst ((tops t).map .int)) δ) := by
  have := lcM_filter (vs := [14]) (bd := bName 14) (tt := tt) (fe := varM 14) (p := fun d => match d with | .int k => t.getD k.toNat 0 == maxL t | _ => false) (g := fun d => d) (items := itM rng1 (consM (callB lenD (consM (varM 6) (pureM []))) (pureM []))) (δ := δ) (δ1 := δ) (ds := rangeL 0 t.length)
    (itM_of (one_of (cb_of (d := .int t.length) (one_of (var_of hx)) (by show some (D.int _) = _; rw [List.length_map]))) (rng1_len hl)) (by rw [rangeL_len]; omega) (by unfold noOwn; simp [ho]) fun d hd => by
      obtain ⟨k, hk, rfl⟩ := rangeL_mem hd
      obtain ⟨δ1, e1, rfl, e2, e3⟩ := bind1 (v := 14) (d := .int (0 + k)) (δ := δ)
      refine ⟨_, e1, e2, e3, ?_, fun _ => ?_⟩
      · rw [Int.zero_add, hm k hk]
        simp
      · exact var_of (by rw [List.getElem?_set_self (by omega)])
  rw [this, List.map_id']
  unfold rangeL tops
  rw [List.filter_map, List.map_map]
  congr 3
  rw [List.filter_congr (q := fun k : Nat => t.getD k 0 == maxL t) fun k _ => by simp]
  apply List.map_congr_left
  intro k _
  simp

theorem gap12 (r : Int) : inD false (.int r) (.lst [.int 0, .int 3, .int 4, .int 7, .int 8, .int 9]) = some (.bl (goes r)) := by
  rw [show ([.int 0, .int 3, .int 4, .int 7, .int 8, .int 9] : List D) = [0, 3, 4, 7, 8, 9].map D.int from rfl, in_ints]
  simp only [List.any_cons, List.any_nil, goes, perf]
  cases ((0 : Int) == r) <;> cases ((3 : Int) == r) <;> cases ((4 : Int) == r) <;> cases ((7 : Int) == r) <;> cases ((8 : Int) == r) <;> cases ((9 : Int) == r) <;> rfl
theorem gap2 (r : Int) : inD false (.int r) (.lst [.int 0, .int 7]) = some (.bl (perf r)) := by
  simp [inD, inB, flatOf, flatL, inV, eqV, perf]
theorem step2 (a b : Int) : inD false (.int (absI (b - a))) (.lst [.int 1, .int 2]) = some (.bl (stp a b)) := by
  rw [show ([.int 1, .int 2] : List D) = [1, 2].map D.int from rfl, in_ints]
  simp only [List.any_cons, List.any_nil, stp]
  congr 2
  generalize absI (b - a) = r
  by_cases h1 : 1 = r
  · subst h1; rfl
  · by_cases h2 : 2 = r
    · subst h2; rfl
    · rw [beq_false_of_ne h1, beq_false_of_ne h2]
      simp
      omega
theorem zin (x y : Int) : inD false (.int 0) (.lst [.int x, .int y]) = some (.bl (decide (x = 0) || decide (y = 0))) := by
  rw [show ([.int x, .int y] : List D) = [x, y].map D.int from rfl, in_ints]
  simp only [List.any_cons, List.any_nil]
  congr 2
  by_cases h1 : x = 0 <;> by_cases h2 : y = 0 <;> simp [h1, h2]
theorem way3 (a b : Int) : way a b = 1 ∨ way a b = -1 ∨ way a b = 0 := by unfold way; split <;> (try split) <;> simp
theorem way_abs (a b c d : Int) (h0 : way a b ≠ 0) (h : way a b = way c d) : (b - a = d - c) ↔ absI (b - a) = absI (d - c) := by
  unfold way at h0 h; unfold absI
  split at h0 <;> split at h <;> (try split at h0) <;> (try split at h) <;> (try split) <;> (try split) <;> omega
theorem way_ne (c d : Int) (h : way c d ≠ 0) : 1 ≤ absI (d - c) := by
  unfold way at h; unfold absI
  split at h <;> (try split at h) <;> (try split) <;> omega
theorem ow_way (a b c d : Int) (h : ow (mot a b c d) = true) : 1 ≤ absI (d - c) := by
  apply way_ne
  intro h2
  unfold ow mot at h
  by_cases h1 : way a b = 0 <;> simp [h1, h2] at h
theorem mstr_inw (m : Mo) : inD false (.str (mstr m)) (.lst [.str "along", .str "alike"]) = some (.bl (ow m)) := mstr_inl m
theorem fin (x y z : Int) : ∃ δ', b_body (lawD 15 1 x y z) = some (.nx δ') ∧ b_rest δ' = some (.rt (.bl true)) := by
  have h : Nx b_body (lawD 15 1 x y z) := by
    obtain ⟨rs, x1, y1, z1, hl, hb, h1⟩ := lcM_rolls (i := 1) (v := 14) (c := 40) (m := 14) (x := x) (y := y) (z := z) (items := itM rng1 (consM (pureM (.int 4)) (pureM []))) (δ := lawD 15 1 x y z) (δ1 := lawD 15 1 x y z) (ds := [.int 0, .int 1, .int 2, .int 3]) ⟨by decide, by decide⟩ (by decide) rfl (by decide) rfl rfl
    match rs, hl, h1 with
    | [a, b, c, d], _, h1 =>
    clear hb
    unfold b_body
    refine nx_seq [.un, .own [.int x1, .int y1, .int z1], .un, .un, .un, .un, .un, .un, .val (.int a), .val (.int b), .val (.int c), .val (.int d), .un, .un, .un] (by rw [thenS_ok h1]; rfl) ?_
    refine nx_seq [.un, .own [.int x1, .int y1, .int z1], .val (.int (absI (b - a))), .un, .un, .un, .un, .un, .val (.int a), .val (.int b), .val (.int c), .val (.int d), .un, .un, .un] (by rw [absI_comm b a]; rfl) ?_
    refine nx_seq _ (if_no (or_no (ne_no (call_of rfl (e_size a b)) rfl (by rw [eqB_int, beq_self_eq_true])) (or_no (ne_no (call_of rfl (e_simple a b)) rfl (by rw [eqB_int, beq_self_eq_true])) (ne_no (y := .int (way a b)) (call_of rfl (e_way a b)) ?_ (by rw [eqB_int, beq_self_eq_true]))))) ?_
    · unfold way
      by_cases h1 : a < b <;> by_cases h2 : b < a <;> simp [defF, startD, seqS, thenS, FL.bindM, pureM, varM, liftO, FL.consM, callM, resM, callB, bin2, un1, tst, toB, FL.andM, FL.orM, FL.notM, andT, orT, iteM, chainM, tupM, lstM, intM, subD, mulD, modD, fdivD, addD, ltD, leD, gtD, geD, eqD_int, neD_int, eqD_bl, neD_bl, negD, int2, int2C, absD, lenD, FL.intD, outRes, nxS, bName, bTup, bCons, bNil, seqOf, h1, h2]
    refine nx_seq _ (if_no (or_no (ne_no (call_of rfl (e_goes a b)) (bin2_of rfl rfl (gap12 _)) (by rw [eqB_bl, beq_self_eq_true])) (or_no (ne_no (call_of rfl (e_perf a b)) (bin2_of rfl rfl (gap2 _)) (by rw [eqB_bl, beq_self_eq_true])) (or_no (ne_no (call_of rfl (e_step a b)) (bin2_of rfl rfl (step2 a b)) (by rw [eqB_bl, beq_self_eq_true])) (ne_no (call_of rfl (e_leap a b)) rfl (by rw [eqB_bl, beq_self_eq_true])))))) ?_
    refine nx_seq [.un, .own [.int x1, .int y1, .int z1], .val (.int (absI (b - a))), .un, .un, .un, .un, .un, .val (.int a), .val (.int b), .val (.int c), .val (.int d), .val (.int (way a b)), .val (.int (way c d)), .un] (by rw [thenS_ok (cons_of (call_of rfl (e_way a b)) (one_of (call_of rfl (e_way c d))))]; rfl) ?_
    refine nx_seq [.un, .own [.int x1, .int y1, .int z1], .val (.int (absI (b - a))), .val (.str (mstr (mot a b c d))), .un, .un, .un, .un, .val (.int a), .val (.int b), .val (.int c), .val (.int d), .val (.int (way a b)), .val (.int (way c d)), .un] ?_ ?_
    · unfold mot
      by_cases h1 : way a b = 0 <;> by_cases h2 : way c d = 0 <;> by_cases h3 : way a b = way c d <;> by_cases h4 : b - a = d - c <;> by_cases h5 : absI (b - a) = absI (d - c) <;>
        first
        | (exfalso; exact h5 ((way_abs a b c d h1 h3).mp h4))
        | (exfalso; exact h4 ((way_abs a b c d h1 h3).mpr h5))
        | simp [defF, startD, seqS, thenS, FL.bindM, pureM, varM, liftO, FL.consM, callM, resM, callB, bin2, un1, tst, toB, FL.andM, FL.orM, FL.notM, andT, orT, iteM, chainM, tupM, lstM, intM, subD, mulD, modD, fdivD, addD, ltD, leD, gtD, geD, eqD_int, neD_int, eqD_bl, neD_bl, negD, int2, int2C, absD, lenD, FL.intD, outRes, nxS, bName, bTup, bCons, bNil, seqOf, zin, h1, h2, h3, h4, h5, mstr]
    refine nx_seq _ (if_no (ne_no (call_of rfl (e_mot a b c d)) (var_of rfl) (by rw [mstr_eq]; simp))) ?_
    refine nx_seq [.un, .own [.int x1, .int y1, .int z1], .val (.int (absI (b - a))), .val (.str (mstr (mot a b c d))), .val (.bl (ra a b c d)), .un, .un, .un, .val (.int a), .val (.int b), .val (.int c), .val (.int d), .val (.int (way a b)), .val (.int (way c d)), .un] ?_ ?_
    · refine (thenS_ok (andM_of (call_of rfl (e_perf a c)) (andM_of (call_of rfl (e_perf b d)) (andM_of (bin2_of (var_of rfl) (var_of rfl) (neD_int a b)) (andM_of (bin2_of (var_of rfl) (var_of rfl) (neD_int c d)) (bin2_of (d := .bl (absI (a - c) % 12 == absI (b - d) % 12)) rfl rfl rfl)))))).trans ?_
      have e : (perf (absI (c - a) % 12) && (perf (absI (d - b) % 12) && ((!(a == b)) && ((!(c == d)) && (absI (a - c) % 12 == absI (b - d) % 12))))) = ra a b c d := by
        unfold ra
        rw [absI_comm a c, absI_comm b d]
        by_cases h5 : absI (c - a) % 12 = absI (d - b) % 12
        · rw [h5]; cases perf (absI (d - b) % 12) <;> rfl
        · rw [beq_false_of_ne h5]
          cases perf (absI (c - a) % 12) <;> cases perf (absI (d - b) % 12) <;> cases (a == b) <;> cases (c == d) <;> rfl
      rw [← e]
      rfl
    refine nx_seq [.un, .own [.int x1, .int y1, .int z1], .val (.int (absI (b - a))), .val (.str (mstr (mot a b c d))), .val (.bl (ra a b c d)), .val (.bl (fi a b c d)), .un, .un, .val (.int a), .val (.int b), .val (.int c), .val (.int d), .val (.int (way a b)), .val (.int (way c d)), .un] ?_ ?_
    · refine (thenS_ok (andM_of (call_of rfl (e_perf b d)) (andM_of (bin2_of (var_of rfl) rfl (mstr_inw _)) (bin2_of (d := .bl (decide (2 < absI (c - d)))) rfl rfl rfl)))).trans ?_
      have e : (perf (absI (d - b) % 12) && (ow (mot a b c d) && decide (2 < absI (c - d)))) = fi a b c d := by
        unfold fi
        rw [absI_comm c d]
        cases h2 : ow (mot a b c d)
        · cases perf (absI (d - b) % 12) <;> cases stp c d <;> rfl
        · have := ow_way a b c d h2
          unfold stp
          have h7 : decide (2 < absI (d - c)) = !decide (absI (d - c) ≤ 2) := by
            by_cases h6 : absI (d - c) ≤ 2
            · rw [decide_eq_true h6, decide_eq_false (by omega)]; rfl
            · rw [decide_eq_false h6, decide_eq_true (by omega)]; rfl
          rw [h7, decide_eq_true this]
          simp
      rw [← e]
      rfl
    refine nx_seq _ (if_no (or_no (ne_no (call_of rfl (e_ra a b c d)) (var_of rfl) (by rw [eqB_bl, beq_self_eq_true])) (ne_no (call_of rfl (e_fi a b c d)) (var_of rfl) (by rw [eqB_bl, beq_self_eq_true])))) ?_
    obtain ⟨r, x2, y2, z2, r0, r1, hr⟩ := roll1 (i := 1) (m := 8) (x := x1) (y := y1) (z := z1) (δ := [.un, .own [.int x1, .int y1, .int z1], .val (.int (absI (b - a))), .val (.str (mstr (mot a b c d))), .val (.bl (ra a b c d)), .val (.bl (fi a b c d)), .un, .un, .val (.int a), .val (.int b), .val (.int c), .val (.int d), .val (.int (way a b)), .val (.int (way c d)), .un]) ⟨by decide, by decide⟩ rfl
    obtain ⟨n, rfl⟩ := Int.eq_ofNat_of_zero_le r0
    obtain ⟨t, x3, y3, z3, tl, tb, ht⟩ := lcM_rolls (i := 1) (v := 14) (c := 40) (m := 14) (x := x2) (y := y2) (z := z2) ⟨by decide, by decide⟩ (by decide) (itM_of (one_of hr) (rng1_len (by omega))) (by rw [rangeL_len]; omega) rfl rfl
    rw [rangeL_len] at tl
    have hl : t.length < 1000000 := by omega
    refine nx_seq [.un, .own [.int x3, .int y3, .int z3], .val (.int (absI (b - a))), .val (.str (mstr (mot a b c d))), .val (.bl (ra a b c d)), .val (.bl (fi a b c d)), .val (.lst (t.map .int)), .un, .val (.int a), .val (.int b), .val (.int c), .val (.int d), .val (.int (way a b)), .val (.int (way c d)), .un] (by rw [thenS_ok ht]; rfl) ?_
    refine nx_seq _ (if_no (or_no
      (ne_no (cb_of (one_of (call_of (one_of (var_of rfl)) (e_moves hl))) rfl) (lcM_gap (x := []) (f := fun p q => q - p) rfl hl rfl rfl fun k hk => bin2_of (bin2_of (var_of rfl) (bin2_of (var_of rfl) rfl rfl) (at_int1 hk)) (bin2_of (var_of rfl) (var_of rfl) (at_int (by omega))) rfl) (by rw [eqB_ints]; simp))
      (ne_no (cb_of (one_of (call_of (one_of (var_of rfl)) (e_shape hl))) rfl) (lcM_gap (x := []) (f := way) rfl hl rfl rfl fun k hk => call_of (cons_of (bin2_of (var_of rfl) (var_of rfl) (at_int (by omega))) (one_of (bin2_of (var_of rfl) (bin2_of (var_of rfl) rfl rfl) (at_int1 hk)))) (e_way _ _)) (by rw [eqB_ints]; simp)))) ?_
    refine nx_seq _ (if_no ?_) ?_
    · by_cases h : t = []
      · subst h
        exact and_no1 (ne_no (var_of rfl) (lst_of rfl (by decide)) eqB_nil)
      · refine and_2 (tst_of (bin2_of (var_of rfl) (lst_of rfl (by decide)) (?_ : _ = some (D.bl true)))) (or_no (ne_no (call_of (one_of (var_of rfl)) (e_span h)) (bin2_of (cb_of (one_of (var_of rfl)) (maxL_eq h)) (cb_of (one_of (var_of rfl)) (minL_eq h)) rfl) (by rw [eqB_int, beq_self_eq_true]))
          (ne_no (cb_of (one_of (call_of (one_of (var_of rfl)) (e_top h hl))) rfl) (lcM_tops rfl hl rfl rfl fun k hk => tst_of (bin2_of (bin2_of (var_of rfl) (var_of rfl) (at_int hk)) (cb_of (one_of (var_of rfl)) (maxL_eq h)) (eqD_int _ _))) (by rw [eqB_ints]; simp)))
        unfold neD
        rw [show eqB (.lst (t.map .int)) (.lst []) = _ from eqB_ints t []]
        simp [h]
    obtain ⟨r, x4, y4, z4, r0, r1, hr⟩ := roll1 (i := 1) (m := 12) (x := x3) (y := y3) (z := z3) (δ := [.un, .own [.int x3, .int y3, .int z3], .val (.int (absI (b - a))), .val (.str (mstr (mot a b c d))), .val (.bl (ra a b c d)), .val (.bl (fi a b c d)), .val (.lst (t.map .int)), .un, .val (.int a), .val (.int b), .val (.int c), .val (.int d), .val (.int (way a b)), .val (.int (way c d)), .un]) ⟨by decide, by decide⟩ rfl
    refine nx_seq [.un, .own [.int x4, .int y4, .int z4], .val (.int (absI (b - a))), .val (.str (mstr (mot a b c d))), .val (.bl (ra a b c d)), .val (.bl (fi a b c d)), .val (.lst (t.map .int)), .val (.int r), .val (.int a), .val (.int b), .val (.int c), .val (.int d), .val (.int (way a b)), .val (.int (way c d)), .un] (by rw [thenS_ok hr]; rfl) ?_
    have q1 : (12 - r) % 12 < 12 := by omega
    have q0 : 0 ≤ (12 - r) % 12 := by omega
    have q2 : (12 - (12 - r) % 12) % 12 = r := by omega
    have q3 : ((12 - r) % 12 + r) % 12 = 0 := by omega
    refine ⟨_, if_no (or_no (ne_no (call_of (one_of (call_of (one_of (var_of rfl)) (e_inv r r0 r1))) (e_inv _ q0 q1)) (var_of rfl) (by rw [eqB_int, q2, beq_self_eq_true])) (ne_no (bin2_of (bin2_of (call_of (one_of (var_of rfl)) (e_inv r r0 r1)) (var_of rfl) rfl) rfl rfl) rfl (by rw [eqB_int, q3, beq_self_eq_true])))⟩
  obtain ⟨δ', h⟩ := h
  exact ⟨δ', h, rest_ok δ'⟩

theorem sc__law_told : FnScope ["what"] ["what"] (defScope s__law_told) := ⟨rfl, rfl, rfl, by decide +kernel, rfl, by decide +kernel, by decide +kernel⟩
set_option maxHeartbeats 8000000 in
theorem all_mk {P : Program} {w : World} {K : PySem.W.Frag} {h : Heap} {mg : Str → Option Value} {fa C Pt : Addr} (X : K.In h) (G : h.Ns mainGlobals mg) (hfa : mg "law" = some (.ref fa))
    {f_size : Addr} {od_size an_size : Option Addr} {sl_size : Array (Option Value)} {oc_size kV_size dc_size pm_size cd_size ct_size : Value}
    {f_simple : Addr} {od_simple an_simple : Option Addr} {sl_simple : Array (Option Value)} {oc_simple kV_simple dc_simple pm_simple cd_simple ct_simple : Value}
    {f_goes_together : Addr} {od_goes_together an_goes_together : Option Addr} {sl_goes_together : Array (Option Value)} {oc_goes_together kV_goes_together dc_goes_together pm_goes_together cd_goes_together ct_goes_together : Value}
    {f_is_perfect : Addr} {od_is_perfect an_is_perfect : Option Addr} {sl_is_perfect : Array (Option Value)} {oc_is_perfect kV_is_perfect dc_is_perfect pm_is_perfect cd_is_perfect ct_is_perfect : Value}
    {f_is_step : Addr} {od_is_step an_is_step : Option Addr} {sl_is_step : Array (Option Value)} {oc_is_step kV_is_step dc_is_step pm_is_step cd_is_step ct_is_step : Value}
    {f_is_leap : Addr} {od_is_leap an_is_leap : Option Addr} {sl_is_leap : Array (Option Value)} {oc_is_leap kV_is_leap dc_is_leap pm_is_leap cd_is_leap ct_is_leap : Value}
    {f_way_of : Addr} {od_way_of an_way_of : Option Addr} {sl_way_of : Array (Option Value)} {oc_way_of kV_way_of dc_way_of pm_way_of cd_way_of ct_way_of : Value}
    {f_motion : Addr} {od_motion an_motion : Option Addr} {sl_motion : Array (Option Value)} {oc_motion kV_motion dc_motion pm_motion cd_motion ct_motion : Value}
    {f_goes_one_way : Addr} {od_goes_one_way an_goes_one_way : Option Addr} {sl_goes_one_way : Array (Option Value)} {oc_goes_one_way kV_goes_one_way dc_goes_one_way pm_goes_one_way cd_goes_one_way ct_goes_one_way : Value}
    {f_runs_alike : Addr} {od_runs_alike an_runs_alike : Option Addr} {sl_runs_alike : Array (Option Value)} {oc_runs_alike kV_runs_alike dc_runs_alike pm_runs_alike cd_runs_alike ct_runs_alike : Value}
    {f_falls_into : Addr} {od_falls_into an_falls_into : Option Addr} {sl_falls_into : Array (Option Value)} {oc_falls_into kV_falls_into dc_falls_into pm_falls_into cd_falls_into ct_falls_into : Value}
    {f_inverted : Addr} {od_inverted an_inverted : Option Addr} {sl_inverted : Array (Option Value)} {oc_inverted kV_inverted dc_inverted pm_inverted cd_inverted ct_inverted : Value}
    {f_shape : Addr} {od_shape an_shape : Option Addr} {sl_shape : Array (Option Value)} {oc_shape kV_shape dc_shape pm_shape cd_shape ct_shape : Value}
    {f_moves : Addr} {od_moves an_moves : Option Addr} {sl_moves : Array (Option Value)} {oc_moves kV_moves dc_moves pm_moves cd_moves ct_moves : Value}
    {f_span : Addr} {od_span an_span : Option Addr} {sl_span : Array (Option Value)} {oc_span kV_span dc_span pm_span cd_span ct_span : Value}
    {f_top_places : Addr} {od_top_places an_top_places : Option Addr} {sl_top_places : Array (Option Value)} {oc_top_places kV_top_places dc_top_places pm_top_places cd_top_places ct_top_places : Value}
    {f__law_dice : Addr} {od__law_dice an__law_dice : Option Addr} {sl__law_dice : Array (Option Value)} {oc__law_dice kV__law_dice dc__law_dice pm__law_dice cd__law_dice ct__law_dice : Value}
    {f__law_roll : Addr} {od__law_roll an__law_roll : Option Addr} {sl__law_roll : Array (Option Value)} {oc__law_roll kV__law_roll dc__law_roll pm__law_roll cd__law_roll ct__law_roll : Value}
    {f__law_rounds : Addr} {od__law_rounds an__law_rounds : Option Addr} {sl__law_rounds : Array (Option Value)} {oc__law_rounds kV__law_rounds dc__law_rounds pm__law_rounds cd__law_rounds ct__law_rounds : Value}
    {f__law_told : Addr} {od__law_told an__law_told : Option Addr} {sl__law_told : Array (Option Value)} {oc__law_told kV__law_told dc__law_told pm__law_told cd__law_told ct__law_told : Value}
    {f_law : Addr} {od_law an_law : Option Addr} {sl_law : Array (Option Value)} {oc_law kV_law dc_law pm_law ct_law : Value}
    {u_PERFECT : Addr} {uo_PERFECT : Option Addr} {ui_PERFECT : Array Value} {un_PERFECT : Nat} {us_PERFECT : Array (Option Value)}
    {u_SOFT : Addr} {uo_SOFT : Option Addr} {ui_SOFT : Array Value} {un_SOFT : Nat} {us_SOFT : Array (Option Value)}
    {C_BadNote : Addr}
    {C_BadTime : Addr}
    {C_BadLine : Addr}
    {C_NoLine : Addr}
    {C_BadPaper : Addr}
    {C_BadSize : Addr}
    {C_BadText : Addr}
    {C_BadStore : Addr}
    {C_NoSuch : Addr}
    (a_size : PySem.W.nsIn K mainGlobals "size" = some (some (.ref f_size)))
    (l_size : K.lookup f_size = some ⟨oc_size, od_size, .func (PySem.W.fnOf "size" "size" (defArgs s_size) (defBody s_size) (defScope s_size) .none kV_size dc_size pm_size an_size cd_size ct_size), sl_size⟩)
    (e_size : PySem.W.codeIn K cd_size "size" = true)
    (k_size : PySem.W.keepIn K (.ref f_size) = true)
    (a_simple : PySem.W.nsIn K mainGlobals "simple" = some (some (.ref f_simple)))
    (l_simple : K.lookup f_simple = some ⟨oc_simple, od_simple, .func (PySem.W.fnOf "simple" "simple" (defArgs s_simple) (defBody s_simple) (defScope s_simple) .none kV_simple dc_simple pm_simple an_simple cd_simple ct_simple), sl_simple⟩)
    (e_simple : PySem.W.codeIn K cd_simple "simple" = true)
    (k_simple : PySem.W.keepIn K (.ref f_simple) = true)
    (a_goes_together : PySem.W.nsIn K mainGlobals "goes_together" = some (some (.ref f_goes_together)))
    (l_goes_together : K.lookup f_goes_together = some ⟨oc_goes_together, od_goes_together, .func (PySem.W.fnOf "goes_together" "goes_together" (defArgs s_goes_together) (defBody s_goes_together) (defScope s_goes_together) .none kV_goes_together dc_goes_together pm_goes_together an_goes_together cd_goes_together ct_goes_together), sl_goes_together⟩)
    (e_goes_together : PySem.W.codeIn K cd_goes_together "goes_together" = true)
    (k_goes_together : PySem.W.keepIn K (.ref f_goes_together) = true)
    (a_is_perfect : PySem.W.nsIn K mainGlobals "is_perfect" = some (some (.ref f_is_perfect)))
    (l_is_perfect : K.lookup f_is_perfect = some ⟨oc_is_perfect, od_is_perfect, .func (PySem.W.fnOf "is_perfect" "is_perfect" (defArgs s_is_perfect) (defBody s_is_perfect) (defScope s_is_perfect) .none kV_is_perfect dc_is_perfect pm_is_perfect an_is_perfect cd_is_perfect ct_is_perfect), sl_is_perfect⟩)
    (e_is_perfect : PySem.W.codeIn K cd_is_perfect "is_perfect" = true)
    (k_is_perfect : PySem.W.keepIn K (.ref f_is_perfect) = true)
    (a_is_step : PySem.W.nsIn K mainGlobals "is_step" = some (some (.ref f_is_step)))
    (l_is_step : K.lookup f_is_step = some ⟨oc_is_step, od_is_step, .func (PySem.W.fnOf "is_step" "is_step" (defArgs s_is_step) (defBody s_is_step) (defScope s_is_step) .none kV_is_step dc_is_step pm_is_step an_is_step cd_is_step ct_is_step), sl_is_step⟩)
    (e_is_step : PySem.W.codeIn K cd_is_step "is_step" = true)
    (k_is_step : PySem.W.keepIn K (.ref f_is_step) = true)
    (a_is_leap : PySem.W.nsIn K mainGlobals "is_leap" = some (some (.ref f_is_leap)))
    (l_is_leap : K.lookup f_is_leap = some ⟨oc_is_leap, od_is_leap, .func (PySem.W.fnOf "is_leap" "is_leap" (defArgs s_is_leap) (defBody s_is_leap) (defScope s_is_leap) .none kV_is_leap dc_is_leap pm_is_leap an_is_leap cd_is_leap ct_is_leap), sl_is_leap⟩)
    (e_is_leap : PySem.W.codeIn K cd_is_leap "is_leap" = true)
    (k_is_leap : PySem.W.keepIn K (.ref f_is_leap) = true)
    (a_way_of : PySem.W.nsIn K mainGlobals "way_of" = some (some (.ref f_way_of)))
    (l_way_of : K.lookup f_way_of = some ⟨oc_way_of, od_way_of, .func (PySem.W.fnOf "way_of" "way_of" (defArgs s_way_of) (defBody s_way_of) (defScope s_way_of) .none kV_way_of dc_way_of pm_way_of an_way_of cd_way_of ct_way_of), sl_way_of⟩)
    (e_way_of : PySem.W.codeIn K cd_way_of "way_of" = true)
    (k_way_of : PySem.W.keepIn K (.ref f_way_of) = true)
    (a_motion : PySem.W.nsIn K mainGlobals "motion" = some (some (.ref f_motion)))
    (l_motion : K.lookup f_motion = some ⟨oc_motion, od_motion, .func (PySem.W.fnOf "motion" "motion" (defArgs s_motion) (defBody s_motion) (defScope s_motion) .none kV_motion dc_motion pm_motion an_motion cd_motion ct_motion), sl_motion⟩)
    (e_motion : PySem.W.codeIn K cd_motion "motion" = true)
    (k_motion : PySem.W.keepIn K (.ref f_motion) = true)
    (a_goes_one_way : PySem.W.nsIn K mainGlobals "goes_one_way" = some (some (.ref f_goes_one_way)))
    (l_goes_one_way : K.lookup f_goes_one_way = some ⟨oc_goes_one_way, od_goes_one_way, .func (PySem.W.fnOf "goes_one_way" "goes_one_way" (defArgs s_goes_one_way) (defBody s_goes_one_way) (defScope s_goes_one_way) .none kV_goes_one_way dc_goes_one_way pm_goes_one_way an_goes_one_way cd_goes_one_way ct_goes_one_way), sl_goes_one_way⟩)
    (e_goes_one_way : PySem.W.codeIn K cd_goes_one_way "goes_one_way" = true)
    (k_goes_one_way : PySem.W.keepIn K (.ref f_goes_one_way) = true)
    (a_runs_alike : PySem.W.nsIn K mainGlobals "runs_alike" = some (some (.ref f_runs_alike)))
    (l_runs_alike : K.lookup f_runs_alike = some ⟨oc_runs_alike, od_runs_alike, .func (PySem.W.fnOf "runs_alike" "runs_alike" (defArgs s_runs_alike) (defBody s_runs_alike) (defScope s_runs_alike) .none kV_runs_alike dc_runs_alike pm_runs_alike an_runs_alike cd_runs_alike ct_runs_alike), sl_runs_alike⟩)
    (e_runs_alike : PySem.W.codeIn K cd_runs_alike "runs_alike" = true)
    (k_runs_alike : PySem.W.keepIn K (.ref f_runs_alike) = true)
    (a_falls_into : PySem.W.nsIn K mainGlobals "falls_into" = some (some (.ref f_falls_into)))
    (l_falls_into : K.lookup f_falls_into = some ⟨oc_falls_into, od_falls_into, .func (PySem.W.fnOf "falls_into" "falls_into" (defArgs s_falls_into) (defBody s_falls_into) (defScope s_falls_into) .none kV_falls_into dc_falls_into pm_falls_into an_falls_into cd_falls_into ct_falls_into), sl_falls_into⟩)
    (e_falls_into : PySem.W.codeIn K cd_falls_into "falls_into" = true)
    (k_falls_into : PySem.W.keepIn K (.ref f_falls_into) = true)
    (a_inverted : PySem.W.nsIn K mainGlobals "inverted" = some (some (.ref f_inverted)))
    (l_inverted : K.lookup f_inverted = some ⟨oc_inverted, od_inverted, .func (PySem.W.fnOf "inverted" "inverted" (defArgs s_inverted) (defBody s_inverted) (defScope s_inverted) .none kV_inverted dc_inverted pm_inverted an_inverted cd_inverted ct_inverted), sl_inverted⟩)
    (e_inverted : PySem.W.codeIn K cd_inverted "inverted" = true)
    (k_inverted : PySem.W.keepIn K (.ref f_inverted) = true)
    (a_shape : PySem.W.nsIn K mainGlobals "shape" = some (some (.ref f_shape)))
    (l_shape : K.lookup f_shape = some ⟨oc_shape, od_shape, .func (PySem.W.fnOf "shape" "shape" (defArgs s_shape) (defBody s_shape) (defScope s_shape) .none kV_shape dc_shape pm_shape an_shape cd_shape ct_shape), sl_shape⟩)
    (e_shape : PySem.W.codeIn K cd_shape "shape" = true)
    (k_shape : PySem.W.keepIn K (.ref f_shape) = true)
    (a_moves : PySem.W.nsIn K mainGlobals "moves" = some (some (.ref f_moves)))
    (l_moves : K.lookup f_moves = some ⟨oc_moves, od_moves, .func (PySem.W.fnOf "moves" "moves" (defArgs s_moves) (defBody s_moves) (defScope s_moves) .none kV_moves dc_moves pm_moves an_moves cd_moves ct_moves), sl_moves⟩)
    (e_moves : PySem.W.codeIn K cd_moves "moves" = true)
    (k_moves : PySem.W.keepIn K (.ref f_moves) = true)
    (a_span : PySem.W.nsIn K mainGlobals "span" = some (some (.ref f_span)))
    (l_span : K.lookup f_span = some ⟨oc_span, od_span, .func (PySem.W.fnOf "span" "span" (defArgs s_span) (defBody s_span) (defScope s_span) .none kV_span dc_span pm_span an_span cd_span ct_span), sl_span⟩)
    (e_span : PySem.W.codeIn K cd_span "span" = true)
    (k_span : PySem.W.keepIn K (.ref f_span) = true)
    (a_top_places : PySem.W.nsIn K mainGlobals "top_places" = some (some (.ref f_top_places)))
    (l_top_places : K.lookup f_top_places = some ⟨oc_top_places, od_top_places, .func (PySem.W.fnOf "top_places" "top_places" (defArgs s_top_places) (defBody s_top_places) (defScope s_top_places) .none kV_top_places dc_top_places pm_top_places an_top_places cd_top_places ct_top_places), sl_top_places⟩)
    (e_top_places : PySem.W.codeIn K cd_top_places "top_places" = true)
    (k_top_places : PySem.W.keepIn K (.ref f_top_places) = true)
    (a__law_dice : PySem.W.nsIn K mainGlobals "_law_dice" = some (some (.ref f__law_dice)))
    (l__law_dice : K.lookup f__law_dice = some ⟨oc__law_dice, od__law_dice, .func (PySem.W.fnOf "_law_dice" "_law_dice" (defArgs s__law_dice) (defBody s__law_dice) (defScope s__law_dice) .none kV__law_dice dc__law_dice pm__law_dice an__law_dice cd__law_dice ct__law_dice), sl__law_dice⟩)
    (e__law_dice : PySem.W.codeIn K cd__law_dice "_law_dice" = true)
    (k__law_dice : PySem.W.keepIn K (.ref f__law_dice) = true)
    (a__law_roll : PySem.W.nsIn K mainGlobals "_law_roll" = some (some (.ref f__law_roll)))
    (l__law_roll : K.lookup f__law_roll = some ⟨oc__law_roll, od__law_roll, .func (PySem.W.fnOf "_law_roll" "_law_roll" (defArgs s__law_roll) (defBody s__law_roll) (defScope s__law_roll) .none kV__law_roll dc__law_roll pm__law_roll an__law_roll cd__law_roll ct__law_roll), sl__law_roll⟩)
    (e__law_roll : PySem.W.codeIn K cd__law_roll "_law_roll" = true)
    (k__law_roll : PySem.W.keepIn K (.ref f__law_roll) = true)
    (a__law_rounds : PySem.W.nsIn K mainGlobals "_law_rounds" = some (some (.ref f__law_rounds)))
    (l__law_rounds : K.lookup f__law_rounds = some ⟨oc__law_rounds, od__law_rounds, .func (PySem.W.fnOf "_law_rounds" "_law_rounds" (defArgs s__law_rounds) (defBody s__law_rounds) (defScope s__law_rounds) .none kV__law_rounds dc__law_rounds pm__law_rounds an__law_rounds cd__law_rounds ct__law_rounds), sl__law_rounds⟩)
    (e__law_rounds : PySem.W.codeIn K cd__law_rounds "_law_rounds" = true)
    (k__law_rounds : PySem.W.keepIn K (.ref f__law_rounds) = true)
    (a__law_told : PySem.W.nsIn K mainGlobals "_law_told" = some (some (.ref f__law_told)))
    (l__law_told : K.lookup f__law_told = some ⟨oc__law_told, od__law_told, .func (PySem.W.fnOf "_law_told" "_law_told" (defArgs s__law_told) (defBody s__law_told) (defScope s__law_told) .none kV__law_told dc__law_told pm__law_told an__law_told cd__law_told ct__law_told), sl__law_told⟩)
    (e__law_told : PySem.W.codeIn K cd__law_told "_law_told" = true)
    (k__law_told : PySem.W.keepIn K (.ref f__law_told) = true)
    (a_law : PySem.W.nsIn K mainGlobals "law" = some (some (.ref f_law)))
    (l_law : K.lookup f_law = some ⟨oc_law, od_law, .func (PySem.W.fnOf "law" "law" (defArgs s_law) (defBody s_law) (defScope s_law) .none kV_law dc_law pm_law an_law (.ref C) ct_law), sl_law⟩)
    (e_law : PySem.W.codeIn K (.ref C) "law" = true)
    (k_law : PySem.W.keepIn K (.ref f_law) = true)
    (z_abs : PySem.W.nsIn K mainGlobals "abs" = some none)
    (z_enumerate : PySem.W.nsIn K mainGlobals "enumerate" = some none)
    (z_int : PySem.W.nsIn K mainGlobals "int" = some none)
    (z_len : PySem.W.nsIn K mainGlobals "len" = some none)
    (z_list : PySem.W.nsIn K mainGlobals "list" = some none)
    (z_max : PySem.W.nsIn K mainGlobals "max" = some none)
    (z_min : PySem.W.nsIn K mainGlobals "min" = some none)
    (z_range : PySem.W.nsIn K mainGlobals "range" = some none)
    (z_tuple : PySem.W.nsIn K mainGlobals "tuple" = some none)
    (z_zip : PySem.W.nsIn K mainGlobals "zip" = some none)
    (a_PERFECT : PySem.W.nsIn K mainGlobals "PERFECT" = some (some (.ref u_PERFECT)))
    (l_PERFECT : K.lookup u_PERFECT = some ⟨.type "tuple", uo_PERFECT, .seq ui_PERFECT un_PERFECT, us_PERFECT⟩)
    (s_PERFECT : ui_PERFECT.size ≤ sizeLine)
    (v_PERFECT : Vals [V.int 0, V.int 7] ui_PERFECT.toList)
    (a_SOFT : PySem.W.nsIn K mainGlobals "SOFT" = some (some (.ref u_SOFT)))
    (l_SOFT : K.lookup u_SOFT = some ⟨.type "tuple", uo_SOFT, .seq ui_SOFT un_SOFT, us_SOFT⟩)
    (s_SOFT : ui_SOFT.size ≤ sizeLine)
    (v_SOFT : Vals [V.int 3, V.int 4, V.int 8, V.int 9] ui_SOFT.toList)
    (aX_BadNote : PySem.W.nsIn K mainGlobals "BadNote" = some (some (.ref C_BadNote)))
    (x_BadNote : PySem.W.excIn K C_BadNote [.type "ValueError", .type "Exception", .type "BaseException", .type "object"] "ValueError.__new__" = true)
    (kX_BadNote : PySem.W.keepIn K (.ref C_BadNote) = true)
    (bX_BadNote : PySem.W.subIn K (.ref C_BadNote) (.type "BaseException") = some true)
    (tX_BadNote : PySem.W.typeIn K (.ref C_BadNote) = some (.type "type"))
    (aX_BadTime : PySem.W.nsIn K mainGlobals "BadTime" = some (some (.ref C_BadTime)))
    (x_BadTime : PySem.W.excIn K C_BadTime [.type "ValueError", .type "Exception", .type "BaseException", .type "object"] "ValueError.__new__" = true)
    (kX_BadTime : PySem.W.keepIn K (.ref C_BadTime) = true)
    (bX_BadTime : PySem.W.subIn K (.ref C_BadTime) (.type "BaseException") = some true)
    (tX_BadTime : PySem.W.typeIn K (.ref C_BadTime) = some (.type "type"))
    (aX_BadLine : PySem.W.nsIn K mainGlobals "BadLine" = some (some (.ref C_BadLine)))
    (x_BadLine : PySem.W.excIn K C_BadLine [.type "ValueError", .type "Exception", .type "BaseException", .type "object"] "ValueError.__new__" = true)
    (kX_BadLine : PySem.W.keepIn K (.ref C_BadLine) = true)
    (bX_BadLine : PySem.W.subIn K (.ref C_BadLine) (.type "BaseException") = some true)
    (tX_BadLine : PySem.W.typeIn K (.ref C_BadLine) = some (.type "type"))
    (aX_NoLine : PySem.W.nsIn K mainGlobals "NoLine" = some (some (.ref C_NoLine)))
    (x_NoLine : PySem.W.excIn K C_NoLine [.type "ValueError", .type "Exception", .type "BaseException", .type "object"] "ValueError.__new__" = true)
    (kX_NoLine : PySem.W.keepIn K (.ref C_NoLine) = true)
    (bX_NoLine : PySem.W.subIn K (.ref C_NoLine) (.type "BaseException") = some true)
    (tX_NoLine : PySem.W.typeIn K (.ref C_NoLine) = some (.type "type"))
    (aX_BadPaper : PySem.W.nsIn K mainGlobals "BadPaper" = some (some (.ref C_BadPaper)))
    (x_BadPaper : PySem.W.excIn K C_BadPaper [.type "ValueError", .type "Exception", .type "BaseException", .type "object"] "ValueError.__new__" = true)
    (kX_BadPaper : PySem.W.keepIn K (.ref C_BadPaper) = true)
    (bX_BadPaper : PySem.W.subIn K (.ref C_BadPaper) (.type "BaseException") = some true)
    (tX_BadPaper : PySem.W.typeIn K (.ref C_BadPaper) = some (.type "type"))
    (aX_BadSize : PySem.W.nsIn K mainGlobals "BadSize" = some (some (.ref C_BadSize)))
    (x_BadSize : PySem.W.excIn K C_BadSize [.type "ValueError", .type "Exception", .type "BaseException", .type "object"] "ValueError.__new__" = true)
    (kX_BadSize : PySem.W.keepIn K (.ref C_BadSize) = true)
    (bX_BadSize : PySem.W.subIn K (.ref C_BadSize) (.type "BaseException") = some true)
    (tX_BadSize : PySem.W.typeIn K (.ref C_BadSize) = some (.type "type"))
    (aX_BadText : PySem.W.nsIn K mainGlobals "BadText" = some (some (.ref C_BadText)))
    (x_BadText : PySem.W.excIn K C_BadText [.type "ValueError", .type "Exception", .type "BaseException", .type "object"] "ValueError.__new__" = true)
    (kX_BadText : PySem.W.keepIn K (.ref C_BadText) = true)
    (bX_BadText : PySem.W.subIn K (.ref C_BadText) (.type "BaseException") = some true)
    (tX_BadText : PySem.W.typeIn K (.ref C_BadText) = some (.type "type"))
    (aX_BadStore : PySem.W.nsIn K mainGlobals "BadStore" = some (some (.ref C_BadStore)))
    (x_BadStore : PySem.W.excIn K C_BadStore [.type "ValueError", .type "Exception", .type "BaseException", .type "object"] "ValueError.__new__" = true)
    (kX_BadStore : PySem.W.keepIn K (.ref C_BadStore) = true)
    (bX_BadStore : PySem.W.subIn K (.ref C_BadStore) (.type "BaseException") = some true)
    (tX_BadStore : PySem.W.typeIn K (.ref C_BadStore) = some (.type "type"))
    (aX_NoSuch : PySem.W.nsIn K mainGlobals "NoSuch" = some (some (.ref C_NoSuch)))
    (x_NoSuch : PySem.W.excIn K C_NoSuch [.type "ValueError", .type "Exception", .type "BaseException", .type "object"] "ValueError.__new__" = true)
    (kX_NoSuch : PySem.W.keepIn K (.ref C_NoSuch) = true)
    (bX_NoSuch : PySem.W.subIn K (.ref C_NoSuch) (.type "BaseException") = some true)
    (tX_NoSuch : PySem.W.typeIn K (.ref C_NoSuch) = some (.type "type"))
    (exm : exmAll K (fun n => ([0, C_BadNote, C_BadTime, C_BadLine, C_NoLine, C_BadPaper, C_BadSize, C_BadText, C_BadStore, C_NoSuch] : List Addr).getD n 0) (NL.map (·.1)) = true) :
    ∃ fd : FuncData, (∀ (s : Shared) (v : Value), BindsTo s fd ⟨[v], []⟩ [("script", v)]) ∧ ∀ base : Heap, K.In base → base.Ns mainGlobals mg → LamX.TabB base mg C Pt → FnOk P w K mg base (L2.CX P w) 8 fa fd ["script"] (spLaw K [(Pt, (("law" : Str) ++ (".<locals>." : Str)) ++ "<lambda>")]) := by
  have e := hfa.symm.trans (PySem.W.mg_of X G a_law)
  cases e
  have Fn_size := fun_mk (st := s_size) l_size e_size k_size
  have bn_size := Fn_size.binds (ps := ["one", "other"]) fun _ _ _ _ _ _ us hl => match us, hl with | [_, _], _ => rfl
  have Fn_simple := fun_mk (st := s_simple) l_simple e_simple k_simple
  have bn_simple := Fn_simple.binds (ps := ["one", "other"]) fun _ _ _ _ _ _ us hl => match us, hl with | [_, _], _ => rfl
  have Fn_goes_together := fun_mk (st := s_goes_together) l_goes_together e_goes_together k_goes_together
  have bn_goes_together := Fn_goes_together.binds (ps := ["low", "high"]) fun _ _ _ _ _ _ us hl => match us, hl with | [_, _], _ => rfl
  have Fn_is_perfect := fun_mk (st := s_is_perfect) l_is_perfect e_is_perfect k_is_perfect
  have bn_is_perfect := Fn_is_perfect.binds (ps := ["low", "high"]) fun _ _ _ _ _ _ us hl => match us, hl with | [_, _], _ => rfl
  have Fn_is_step := fun_mk (st := s_is_step) l_is_step e_is_step k_is_step
  have bn_is_step := Fn_is_step.binds (ps := ["one", "other"]) fun _ _ _ _ _ _ us hl => match us, hl with | [_, _], _ => rfl
  have Fn_is_leap := fun_mk (st := s_is_leap) l_is_leap e_is_leap k_is_leap
  have bn_is_leap := Fn_is_leap.binds (ps := ["one", "other"]) fun _ _ _ _ _ _ us hl => match us, hl with | [_, _], _ => rfl
  have Fn_way_of := fun_mk (st := s_way_of) l_way_of e_way_of k_way_of
  have bn_way_of := Fn_way_of.binds (ps := ["one", "other"]) fun _ _ _ _ _ _ us hl => match us, hl with | [_, _], _ => rfl
  have Fn_motion := fun_mk (st := s_motion) l_motion e_motion k_motion
  have bn_motion := Fn_motion.binds (ps := ["low", "low_next", "high", "high_next"]) fun _ _ _ _ _ _ us hl => match us, hl with | [_, _, _, _], _ => rfl
  have Fn_goes_one_way := fun_mk (st := s_goes_one_way) l_goes_one_way e_goes_one_way k_goes_one_way
  have bn_goes_one_way := Fn_goes_one_way.binds (ps := ["low", "low_next", "high", "high_next"]) fun _ _ _ _ _ _ us hl => match us, hl with | [_, _, _, _], _ => rfl
  have Fn_runs_alike := fun_mk (st := s_runs_alike) l_runs_alike e_runs_alike k_runs_alike
  have bn_runs_alike := Fn_runs_alike.binds (ps := ["low", "low_next", "high", "high_next"]) fun _ _ _ _ _ _ us hl => match us, hl with | [_, _, _, _], _ => rfl
  have Fn_falls_into := fun_mk (st := s_falls_into) l_falls_into e_falls_into k_falls_into
  have bn_falls_into := Fn_falls_into.binds (ps := ["low", "low_next", "high", "high_next"]) fun _ _ _ _ _ _ us hl => match us, hl with | [_, _, _, _], _ => rfl
  have Fn_inverted := fun_mk (st := s_inverted) l_inverted e_inverted k_inverted
  have bn_inverted := Fn_inverted.binds (ps := ["steps"]) fun _ _ _ _ _ _ us hl => match us, hl with | [_], _ => rfl
  have Fn_shape := fun_mk (st := s_shape) l_shape e_shape k_shape
  have bn_shape := Fn_shape.binds (ps := ["tune"]) fun _ _ _ _ _ _ us hl => match us, hl with | [_], _ => rfl
  have Fn_moves := fun_mk (st := s_moves) l_moves e_moves k_moves
  have bn_moves := Fn_moves.binds (ps := ["tune"]) fun _ _ _ _ _ _ us hl => match us, hl with | [_], _ => rfl
  have Fn_span := fun_mk (st := s_span) l_span e_span k_span
  have bn_span := Fn_span.binds (ps := ["tune"]) fun _ _ _ _ _ _ us hl => match us, hl with | [_], _ => rfl
  have Fn_top_places := fun_mk (st := s_top_places) l_top_places e_top_places k_top_places
  have bn_top_places := Fn_top_places.binds (ps := ["tune"]) fun _ _ _ _ _ _ us hl => match us, hl with | [_], _ => rfl
  have Fn__law_dice := fun_mk (st := s__law_dice) l__law_dice e__law_dice k__law_dice
  have bn__law_dice := Fn__law_dice.binds (ps := ["cell"]) fun _ _ _ _ _ _ us hl => match us, hl with | [_], _ => rfl
  have Fn__law_roll := fun_mk (st := s__law_roll) l__law_roll e__law_roll k__law_roll
  have bn__law_roll := Fn__law_roll.binds (ps := ["dice", "many"]) fun _ _ _ _ _ _ us hl => match us, hl with | [_, _], _ => rfl
  have Fn__law_rounds := fun_mk (st := s__law_rounds) l__law_rounds e__law_rounds k__law_rounds
  have bn__law_rounds := Fn__law_rounds.binds (ps := ["script", "most"]) fun _ _ _ _ _ _ us hl => match us, hl with | [_, _], _ => rfl
  have Fn__law_told := fun_mk (st := s__law_told) l__law_told e__law_told k__law_told
  have bn__law_told := Fn__law_told.binds (ps := ["what"]) fun _ _ _ _ _ _ us hl => match us, hl with | [_], _ => rfl
  have TT : TX K mg (fun n => ([0, C_BadNote, C_BadTime, C_BadLine, C_NoLine, C_BadPaper, C_BadSize, C_BadText, C_BadStore, C_NoSuch] : List Addr).getD n 0) := ⟨PySem.W.mg_none_of X G z_abs, PySem.W.mg_none_of X G z_enumerate, PySem.W.mg_none_of X G z_int, PySem.W.mg_none_of X G z_len, PySem.W.mg_none_of X G z_list, PySem.W.mg_none_of X G z_max, PySem.W.mg_none_of X G z_min, PySem.W.mg_none_of X G z_range, PySem.W.mg_none_of X G z_tuple, PySem.W.mg_none_of X G z_zip, const_tup X G a_PERFECT l_PERFECT s_PERFECT v_PERFECT (fun _ => RepL.ints [0, 7]), const_tup X G a_SOFT l_SOFT s_SOFT v_SOFT (fun _ => RepL.ints [3, 4, 8, 9]), ⟨PySem.W.mg_of X G aX_BadSize, x_BadSize, kX_BadSize, bX_BadSize, tX_BadSize⟩⟩
  refine ⟨PySem.W.fnOf "law" "law" (defArgs s_law) (defBody s_law) (defScope s_law) .none kV_law dc_law pm_law an_law (.ref C) ct_law, fun s v => .of_eq rfl, fun base _ _ tb => ?_⟩
  have d_size := fn_size (P := P) (w := w) (base := base) TT  Fn_size (PySem.W.mg_of X G a_size) bn_size
  have d_simple := fn_simple (P := P) (w := w) (base := base) TT d_size Fn_simple (PySem.W.mg_of X G a_simple) bn_simple
  have d_goes_together := fn_goes_together (P := P) (w := w) (base := base) TT d_simple Fn_goes_together (PySem.W.mg_of X G a_goes_together) bn_goes_together
  have d_is_perfect := fn_is_perfect (P := P) (w := w) (base := base) TT d_simple Fn_is_perfect (PySem.W.mg_of X G a_is_perfect) bn_is_perfect
  have d_is_step := fn_is_step (P := P) (w := w) (base := base) TT d_size Fn_is_step (PySem.W.mg_of X G a_is_step) bn_is_step
  have d_is_leap := fn_is_leap (P := P) (w := w) (base := base) TT d_size Fn_is_leap (PySem.W.mg_of X G a_is_leap) bn_is_leap
  have d_way_of := fn_way_of (P := P) (w := w) (base := base) TT  Fn_way_of (PySem.W.mg_of X G a_way_of) bn_way_of
  have d_motion := fn_motion (P := P) (w := w) (base := base) TT d_size d_way_of Fn_motion (PySem.W.mg_of X G a_motion) bn_motion
  have d_goes_one_way := fn_goes_one_way (P := P) (w := w) (base := base) TT d_motion Fn_goes_one_way (PySem.W.mg_of X G a_goes_one_way) bn_goes_one_way
  have d_runs_alike := fn_runs_alike (P := P) (w := w) (base := base) TT d_is_perfect d_simple Fn_runs_alike (PySem.W.mg_of X G a_runs_alike) bn_runs_alike
  have d_falls_into := fn_falls_into (P := P) (w := w) (base := base) TT d_goes_one_way d_is_perfect d_is_step Fn_falls_into (PySem.W.mg_of X G a_falls_into) bn_falls_into
  have d_inverted := fn_inverted (P := P) (w := w) (base := base) TT  Fn_inverted (PySem.W.mg_of X G a_inverted) bn_inverted
  have d_shape := fn_shape (P := P) (w := w) (base := base) TT d_way_of Fn_shape (PySem.W.mg_of X G a_shape) bn_shape
  have d_moves := fn_moves (P := P) (w := w) (base := base) TT  Fn_moves (PySem.W.mg_of X G a_moves) bn_moves
  have d_span := fn_span (P := P) (w := w) (base := base) TT  Fn_span (PySem.W.mg_of X G a_span) bn_span
  have d_top_places := fn_top_places (P := P) (w := w) (base := base) TT  Fn_top_places (PySem.W.mg_of X G a_top_places) bn_top_places
  have d__law_dice := fn__law_dice (P := P) (w := w) (base := base) TT  Fn__law_dice (PySem.W.mg_of X G a__law_dice) bn__law_dice
  have RD : RollD P w K mg base := ⟨_, _, PySem.W.mg_of X G a__law_roll, k__law_roll, bn__law_roll, ok_roll Fn__law_roll TT.b_int⟩
  have hR := ok_rounds (P := P) (w := w) (base := base) Fn__law_rounds sc__law_rounds rfl (.inl rfl) rfl (fs_rounds TT d__law_dice) finR
  have TD : ToldD P w K mg base (fun n => ([0, C_BadNote, C_BadTime, C_BadLine, C_NoLine, C_BadPaper, C_BadSize, C_BadText, C_BadStore, C_NoSuch] : List Addr).getD n 0) NL := ⟨⟨_, _, ["what"], _, _, _, _, _, _, _, _, _, _, _, _, _, _, _, _, _, PySem.W.mg_of X G a__law_told, k__law_told, l__law_told, e__law_told, bn__law_told, sc__law_told, rfl, .inl rfl, (.cons rfl (PySem.W.mg_of X G aX_BadNote) (by decide) (.cons rfl (PySem.W.mg_of X G aX_BadTime) (by decide) (.cons rfl (PySem.W.mg_of X G aX_BadLine) (by decide) (.cons rfl (PySem.W.mg_of X G aX_NoLine) (by decide) (.cons rfl (PySem.W.mg_of X G aX_BadPaper) (by decide) (.cons rfl (PySem.W.mg_of X G aX_BadSize) (by decide) (.cons rfl (PySem.W.mg_of X G aX_BadText) (by decide) (.cons rfl (PySem.W.mg_of X G aX_BadStore) (by decide) (.cons rfl (PySem.W.mg_of X G aX_NoSuch) (by decide) .nil))))))))), fun f => rfl⟩, exm_all exm⟩
  exact law_ok (i := 1) l_law e_law sc_law rfl (by decide) (by first | exact .inl rfl | exact .inr rfl) rfl (PySem.W.mg_of X G a__law_rounds) k__law_rounds bn__law_rounds (hR.mono (by decide)) rfl (fs_body TT d_falls_into d_goes_together d_inverted d_is_leap d_is_perfect d_is_step d_motion d_moves d_runs_alike d_shape d_simple d_size d_span d_top_places d_way_of RD TD tb) (fs_rest TT d_falls_into d_goes_together d_inverted d_is_leap d_is_perfect d_is_step d_motion d_moves d_runs_alike d_shape d_simple d_size d_span d_top_places d_way_of RD TD tb) fin
end V

open PySem PySem.W PyProof.Rows
set_option maxHeartbeats 0 in
theorem PySem.Challenge.cw_voicewright_k02_how_lines_move_holds : PySem.Challenge.rw_voicewright_k02_how_lines_move.Holds := by
  w_on; o_law; k_head; (case hw => w_witness2)
  k_fill
  refine' FL.walk_law (l := PySem.Challenge.rw_voicewright_k02_how_lines_move) (n := 63) (k := 8) (x := "script") rfl (by decide) rfl ⟨rfl, by decide, by decide⟩ (fun w h Y => PySem.W.km_in_of Y) (fun w h Y => PySem.W.km_tabs_of Y _ (List.mem_singleton.mpr rfl)) ?fc ?fK ?fF
  case fF =>
    intro w mg fa h KX G hmg
    refine' V.all_mk KX G hmg ?a_size ?l_size ?e_size ?k_size ?a_simple ?l_simple ?e_simple ?k_simple ?a_goes_together ?l_goes_together ?e_goes_together ?k_goes_together ?a_is_perfect ?l_is_perfect ?e_is_perfect ?k_is_perfect ?a_is_step ?l_is_step ?e_is_step ?k_is_step ?a_is_leap ?l_is_leap ?e_is_leap ?k_is_leap ?a_way_of ?l_way_of ?e_way_of ?k_way_of ?a_motion ?l_motion ?e_motion ?k_motion ?a_goes_one_way ?l_goes_one_way ?e_goes_one_way ?k_goes_one_way ?a_runs_alike ?l_runs_alike ?e_runs_alike ?k_runs_alike ?a_falls_into ?l_falls_into ?e_falls_into ?k_falls_into ?a_inverted ?l_inverted ?e_inverted ?k_inverted ?a_shape ?l_shape ?e_shape ?k_shape ?a_moves ?l_moves ?e_moves ?k_moves ?a_span ?l_span ?e_span ?k_span ?a_top_places ?l_top_places ?e_top_places ?k_top_places ?a__law_dice ?l__law_dice ?e__law_dice ?k__law_dice ?a__law_roll ?l__law_roll ?e__law_roll ?k__law_roll ?a__law_rounds ?l__law_rounds ?e__law_rounds ?k__law_rounds ?a__law_told ?l__law_told ?e__law_told ?k__law_told ?a_law ?l_law ?e_law ?k_law ?z_abs ?z_enumerate ?z_int ?z_len ?z_list ?z_max ?z_min ?z_range ?z_tuple ?z_zip ?a_PERFECT ?l_PERFECT ?s_PERFECT ?v_PERFECT ?a_SOFT ?l_SOFT ?s_SOFT ?v_SOFT ?aX_BadNote ?x_BadNote ?kX_BadNote ?bX_BadNote ?tX_BadNote ?aX_BadTime ?x_BadTime ?kX_BadTime ?bX_BadTime ?tX_BadTime ?aX_BadLine ?x_BadLine ?kX_BadLine ?bX_BadLine ?tX_BadLine ?aX_NoLine ?x_NoLine ?kX_NoLine ?bX_NoLine ?tX_NoLine ?aX_BadPaper ?x_BadPaper ?kX_BadPaper ?bX_BadPaper ?tX_BadPaper ?aX_BadSize ?x_BadSize ?kX_BadSize ?bX_BadSize ?tX_BadSize ?aX_BadText ?x_BadText ?kX_BadText ?bX_BadText ?tX_BadText ?aX_BadStore ?x_BadStore ?kX_BadStore ?bX_BadStore ?tX_BadStore ?aX_NoSuch ?x_NoSuch ?kX_NoSuch ?bX_NoSuch ?tX_NoSuch ?exm
    (case a_size => k_is); (case l_size => k_is); (case e_size => k_is); (case k_size => k_is); (case a_simple => k_is); (case l_simple => k_is); (case e_simple => k_is); (case k_simple => k_is); (case a_goes_together => k_is); (case l_goes_together => k_is); (case e_goes_together => k_is); (case k_goes_together => k_is); (case a_is_perfect => k_is); (case l_is_perfect => k_is); (case e_is_perfect => k_is); (case k_is_perfect => k_is); (case a_is_step => k_is); (case l_is_step => k_is); (case e_is_step => k_is); (case k_is_step => k_is); (case a_is_leap => k_is); (case l_is_leap => k_is); (case e_is_leap => k_is); (case k_is_leap => k_is); (case a_way_of => k_is); (case l_way_of => k_is); (case e_way_of => k_is); (case k_way_of => k_is); (case a_motion => k_is); (case l_motion => k_is); (case e_motion => k_is); (case k_motion => k_is); (case a_goes_one_way => k_is); (case l_goes_one_way => k_is); (case e_goes_one_way => k_is); (case k_goes_one_way => k_is); (case a_runs_alike => k_is); (case l_runs_alike => k_is); (case e_runs_alike => k_is); (case k_runs_alike => k_is); (case a_falls_into => k_is); (case l_falls_into => k_is); (case e_falls_into => k_is); (case k_falls_into => k_is); (case a_inverted => k_is); (case l_inverted => k_is); (case e_inverted => k_is); (case k_inverted => k_is); (case a_shape => k_is); (case l_shape => k_is); (case e_shape => k_is); (case k_shape => k_is); (case a_moves => k_is); (case l_moves => k_is); (case e_moves => k_is); (case k_moves => k_is); (case a_span => k_is); (case l_span => k_is); (case e_span => k_is); (case k_span => k_is); (case a_top_places => k_is); (case l_top_places => k_is); (case e_top_places => k_is); (case k_top_places => k_is); (case a__law_dice => k_is); (case l__law_dice => k_is); (case e__law_dice => k_is); (case k__law_dice => k_is); (case a__law_roll => k_is); (case l__law_roll => k_is); (case e__law_roll => k_is); (case k__law_roll => k_is); (case a__law_rounds => k_is); (case l__law_rounds => k_is); (case e__law_rounds => k_is); (case k__law_rounds => k_is); (case a__law_told => k_is); (case l__law_told => k_is); (case e__law_told => k_is); (case k__law_told => k_is); (case a_law => k_is); (case l_law => k_is); (case e_law => k_is); (case k_law => k_is); (case z_abs => k_is); (case z_enumerate => k_is); (case z_int => k_is); (case z_len => k_is); (case z_list => k_is); (case z_max => k_is); (case z_min => k_is); (case z_range => k_is); (case z_tuple => k_is); (case z_zip => k_is); (case a_PERFECT => k_is); (case l_PERFECT => k_is); (case s_PERFECT => decide); (case v_PERFECT => exact (.cons ⟨_, rfl⟩ (.cons ⟨_, rfl⟩ .nil))); (case a_SOFT => k_is); (case l_SOFT => k_is); (case s_SOFT => decide); (case v_SOFT => exact (.cons ⟨_, rfl⟩ (.cons ⟨_, rfl⟩ (.cons ⟨_, rfl⟩ (.cons ⟨_, rfl⟩ .nil))))); (case aX_BadNote => k_is); (case x_BadNote => k_exc); (case kX_BadNote => k_is); (case bX_BadNote => k_is); (case tX_BadNote => k_is); (case aX_BadTime => k_is); (case x_BadTime => k_exc); (case kX_BadTime => k_is); (case bX_BadTime => k_is); (case tX_BadTime => k_is); (case aX_BadLine => k_is); (case x_BadLine => k_exc); (case kX_BadLine => k_is); (case bX_BadLine => k_is); (case tX_BadLine => k_is); (case aX_NoLine => k_is); (case x_NoLine => k_exc); (case kX_NoLine => k_is); (case bX_NoLine => k_is); (case tX_NoLine => k_is); (case aX_BadPaper => k_is); (case x_BadPaper => k_exc); (case kX_BadPaper => k_is); (case bX_BadPaper => k_is); (case tX_BadPaper => k_is); (case aX_BadSize => k_is); (case x_BadSize => k_exc); (case kX_BadSize => k_is); (case bX_BadSize => k_is); (case tX_BadSize => k_is); (case aX_BadText => k_is); (case x_BadText => k_exc); (case kX_BadText => k_is); (case bX_BadText => k_is); (case tX_BadText => k_is); (case aX_BadStore => k_is); (case x_BadStore => k_exc); (case kX_BadStore => k_is); (case bX_BadStore => k_is); (case tX_BadStore => k_is); (case aX_NoSuch => k_is); (case x_NoSuch => k_exc); (case kX_NoSuch => k_is); (case bX_NoSuch => k_is); (case tX_NoSuch => k_is); (case exm => first | rfl | kernel_rfl)
  case fc => intro w; first | rfl | kernel_rfl | k_is
  case fK => intro w; first | rfl | kernel_rfl | k_is
