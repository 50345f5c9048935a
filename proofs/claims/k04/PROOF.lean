import PyProof.Rows.All
import HandS.ForMost
import HandS.ForExc
import HandS.More
import HandS.TryMany
import HandS.Lambda
import HandS.Flow
import HandS.Zip
import HandS.NoneIn
import HandS.SortKw
import KE.DataMinMax
import KE.SortData
import HandS.EndTab
import HandS.HeadWalk
import HandS.Gcd
import HandS.CallSlots
import HandS.Defaults
import PySem.Challenge.RW_voicewright_k04_exact_parts
set_option Elab.async false
set_option linter.all false
set_option maxRecDepth 100000
set_option maxHeartbeats 2000000
/-! FL1: data by value (D), what stands for it in a heap (Rep), the state of a def by values (S), effects (M), judgements. -/
namespace FL
open PySem PySem.Spec PyProof.Rows L2

/-- a lambda without parameters and captured names, as written, the name of its code, its place in the reader's list -/
structure Lam where
  params : Arguments
  body : Expr
  scope : Scope
  q : PySem.Str
  ix : Nat
def LamO (L : Lam) (f c' : Addr) : HO := .ext fun h => ∃ pm ctv : Value, h.get? f = some (PySem.W.kla_obj "<lambda>" L.q L.params L.body L.scope [] pm c' ctv)
inductive D where
  | non | bl (b : Bool) | int (i : Int) | str (s : PySem.Str) | lst (xs : List D) | tup (xs : List D) | ins (C : Addr) (fs : List (PySem.Str × D)) | fn (L : Lam)

mutual
inductive Rep (K : PySem.W.Frag) (G : Hp) : V → D → Prop
  | non : Rep K G .non .non
  | bl (b : Bool) : Rep K G (.bl b) (.bl b)
  | int (i : Int) : Rep K G (.int i) (.int i)
  | str (x : PySem.Str) : Rep K G (.str x) (.str x)
  | lst {a : Addr} {xs : List V} {ds : List D} : G a = some (.lst xs) → RepL K G xs ds → Rep K G (.ref a) (.lst ds)
  | tup {a : Addr} {xs : List V} {ds : List D} : SqT K G a xs → RepL K G xs ds → Rep K G (.ref a) (.tup ds)
  | ins {a C dx : Addr} {vs : List (PySem.Str × V)} {fs : List (PySem.Str × D)} : G a = some (.ins C dx vs) → RepF K G vs fs → Rep K G (.ref a) (.ins C fs)
  | fn {f c' : Addr} {L : Lam} : G f = some (LamO L f c') → G c' = some (LamX.CodeO c' L.q) → Rep K G (.ref f) (.fn L)
inductive RepL (K : PySem.W.Frag) (G : Hp) : List V → List D → Prop
  | nil : RepL K G [] []
  | cons {v : V} {vs : List V} {d : D} {ds : List D} : Rep K G v d → RepL K G vs ds → RepL K G (v :: vs) (d :: ds)
inductive RepF (K : PySem.W.Frag) (G : Hp) : List (PySem.Str × V) → List (PySem.Str × D) → Prop
  | nil : RepF K G [] []
  | cons {n : PySem.Str} {v : V} {vs : List (PySem.Str × V)} {d : D} {ds : List (PySem.Str × D)} : Rep K G v d → RepF K G vs ds → RepF K G ((n, v) :: vs) ((n, d) :: ds)
end

theorem seqT {K : PySem.W.Frag} {H H' : Hp} {a : Addr} {xs : List V} (e : Same H H') (h : SqT K H a xs) : SqT K H' a xs := by
  rcases h with (h | ⟨o, h⟩) | h
  · exact .inl (.inl (e _ _ h))
  · exact .inl (.inr ⟨o, e _ _ h⟩)
  · exact .inr h
mutual
theorem Rep.mono {K : PySem.W.Frag} {G G' : Hp} (e : Same G G') : ∀ {v : V} {d : D}, Rep K G v d → Rep K G' v d
  | _, _, .non => .non
  | _, _, .bl b => .bl b
  | _, _, .int i => .int i
  | _, _, .str x => .str x
  | _, _, .lst h r => .lst (e _ _ h) (RepL.mono e r)
  | _, _, .tup h r => .tup (seqT e h) (RepL.mono e r)
  | _, _, .ins h r => .ins (e _ _ h) (RepF.mono e r)
  | _, _, .fn h1 h2 => .fn (e _ _ h1) (e _ _ h2)
theorem RepL.mono {K : PySem.W.Frag} {G G' : Hp} (e : Same G G') : ∀ {v : List V} {d : List D}, RepL K G v d → RepL K G' v d
  | _, _, .nil => .nil
  | _, _, .cons h r => .cons (Rep.mono e h) (RepL.mono e r)
theorem RepF.mono {K : PySem.W.Frag} {G G' : Hp} (e : Same G G') : ∀ {v : List (PySem.Str × V)} {d : List (PySem.Str × D)}, RepF K G v d → RepF K G' v d
  | _, _, .nil => .nil
  | _, _, .cons h r => .cons (Rep.mono e h) (RepF.mono e r)
end
theorem RepL.length {K : PySem.W.Frag} {G : Hp} : ∀ {v : List V} {d : List D}, RepL K G v d → v.length = d.length
  | _, _, .nil => rfl
  | _, _, .cons _ r => by simp [RepL.length r]
theorem RepL.get {K : PySem.W.Frag} {G : Hp} : ∀ {vs : List V} {ds : List D} {i : Nat} {d : D}, RepL K G vs ds → ds[i]? = some d → ∃ v, vs[i]? = some v ∧ Rep K G v d
  | _, _, _, _, .nil, e => by simp at e
  | _, _, 0, _, .cons r _, e => by simp at e; subst e; exact ⟨_, rfl, r⟩
  | _, _, i + 1, d, .cons _ t, e => by
    obtain ⟨v, h1, h2⟩ := RepL.get (i := i) (d := d) t (by simpa using e)
    exact ⟨v, by simpa using h1, h2⟩
theorem RepL.get' {K : PySem.W.Frag} {G : Hp} : ∀ {vs : List V} {ds : List D} {i : Nat} {v : V}, RepL K G vs ds → vs[i]? = some v → ∃ d, ds[i]? = some d ∧ Rep K G v d
  | _, _, _, _, .nil, e => by simp at e
  | _, _, 0, _, .cons r _, e => by simp at e; subst e; exact ⟨_, rfl, r⟩
  | _, _, i + 1, d, .cons _ t, e => by
    obtain ⟨v, h1, h2⟩ := RepL.get' (i := i) (v := d) t (by simpa using e)
    exact ⟨v, by simpa using h1, h2⟩
theorem RepL.append {K : PySem.W.Frag} {G : Hp} : ∀ {vs ws : List V} {ds es : List D}, RepL K G vs ds → RepL K G ws es → RepL K G (vs ++ ws) (ds ++ es)
  | _, _, _, _, .nil, r => r
  | _, _, _, _, .cons h t, r => .cons h (RepL.append t r)
theorem RepL.take {K : PySem.W.Frag} {G : Hp} : ∀ {vs : List V} {ds : List D} (n : Nat), RepL K G vs ds → RepL K G (vs.take n) (ds.take n)
  | _, _, 0, _ => .nil
  | _, _, _ + 1, .nil => .nil
  | _, _, n + 1, .cons h t => .cons h (RepL.take n t)
theorem RepL.drop {K : PySem.W.Frag} {G : Hp} : ∀ {vs : List V} {ds : List D} (n : Nat), RepL K G vs ds → RepL K G (vs.drop n) (ds.drop n)
  | _, _, 0, r => r
  | _, _, _ + 1, .nil => .nil
  | _, _, n + 1, .cons h t => RepL.drop n t
theorem RepL.set {K : PySem.W.Frag} {G : Hp} {v : V} {d : D} (hv : Rep K G v d) : ∀ {vs : List V} {ds : List D} (n : Nat), RepL K G vs ds → RepL K G (vs.set n v) (ds.set n d)
  | _, _, _, .nil => .nil
  | _, _, 0, .cons _ t => .cons hv t
  | _, _, n + 1, .cons h t => .cons h (RepL.set hv n t)
theorem RepL.ints {K : PySem.W.Frag} {G : Hp} : ∀ (ns : List Int), RepL K G (ns.map V.int) (ns.map D.int)
  | [] => .nil
  | n :: r => .cons (.int n) (RepL.ints r)
theorem RepL.ints' {K : PySem.W.Frag} {G : Hp} : ∀ {vs : List V} {ns : List Int}, RepL K G vs (ns.map D.int) → vs = ns.map V.int
  | _, [], .nil => rfl
  | _, n :: r, .cons h t => by cases h; rw [RepL.ints' t]; rfl
theorem RepL.none {K : PySem.W.Frag} {G : Hp} {vs : List V} {ds : List D} {i : Nat} (r : RepL K G vs ds) (h : ds[i]? = none) : vs[i]? = none := by
  rw [List.getElem?_eq_none_iff] at h ⊢
  rw [r.length]; exact h

/-- a slot: nothing known; a value (frozen); a list that this slot alone holds -/
inductive Sl where
  | un | val (d : D) | own (xs : List D)
abbrev De := List Sl

/-- the state: F what the callers hold (not ours to touch), G what is frozen -/
structure S (κ : PySem.W.Frag × List (Addr × PySem.Str)) (F : Hp) (σ : L2.St) (G H : Hp) (δ : De) : Prop where
  sub : Same G H
  frm : Same F H
  dis : ∀ b o, F b = some o → G b = none
  len : δ.length = σ.length
  val : ∀ (i : Nat) d, δ[i]? = some (.val d) → ∃ v, σ[i]? = some (some v) ∧ Rep κ.1 G v d
  own : ∀ (i : Nat) xs, δ[i]? = some (.own xs) → ∃ p vs, σ[i]? = some (some (.ref p)) ∧ H p = some (.lst vs) ∧ RepL κ.1 G vs xs ∧ G p = none ∧ F p = none
  inj : ∀ (i j : Nat) xs ys, i ≠ j → δ[i]? = some (.own xs) → δ[j]? = some (.own ys) → σ[i]? ≠ σ[j]?
  tab : LamX.Tabs κ.2 H
  tnf : ∀ p ∈ κ.2, F p.1 = none ∧ G p.1 = none
  ntg : ∀ b ps, G b ≠ some (.tbl ps)
  ntf : κ.2 = [] ∨ ∀ b o, F b = some o → ∃ xs, o = .lst xs

/-- a list is changed: no table sees it -/
theorem tabs_lst {T : List (Addr × PySem.Str)} {H : Hp} {p : Addr} {vs ws : List V} (t : LamX.Tabs T H) (h : H p = some (.lst vs)) : LamX.Tabs T (upd H p (.lst ws)) := fun x hx => by
  obtain ⟨ps, h1, h2, h3⟩ := t x hx
  refine ⟨ps, ?_, h2, fun pos cv hc => ?_⟩
  · rw [upd_ne]
    · exact h1
    · intro e; rw [e, h] at h1; cases h1
  · obtain ⟨c, e1, e2⟩ := h3 pos cv hc
    refine ⟨c, e1, ?_⟩
    rw [upd_ne]
    · exact e2
    · intro e
      rw [e, h] at e2
      unfold LamX.CodeO at e2
      cases e2
theorem same_upd {H : Hp} {p : Addr} {o : HO} (h : H p = none) : Same H (upd H p o) := fun b x e => by
  rw [upd_ne (ne_of_none e h)]; exact e
section
variable {K : PySem.W.Frag} {T : List (Addr × PySem.Str)} {F : Hp} {σ : L2.St} {G H : Hp} {δ : De}
/-- a new frozen object -/
theorem S.tab_at (s : S (K, T) F σ G H δ) {x : Addr × PySem.Str} (hx : x ∈ T) : ∃ ps, H x.1 = some (.tbl ps) := let ⟨ps, h, _⟩ := s.tab x hx; ⟨ps, h⟩
theorem S.new (s : S (K, T) F σ G H δ) {p : Addr} {o : HO} (h : H p = none) (no : ∀ ps, o ≠ .tbl ps := by intro _ z; cases z) : S (K, T) F σ (upd G p o) (upd H p o) δ := by
  have hg : G p = none := s.sub.free h
  have sg : Same G (upd G p o) := same_upd hg
  have nb : ∀ b x, H b = some x → b ≠ p := fun b x e => ne_of_none e h
  refine ⟨fun b x e => ?_, fun b x e => ?_, fun b x e => ?_, s.len, fun i d e => ?_, fun i xs e => ?_, s.inj, s.tab.ext (same_upd h), fun x hx => ?_, fun b ps e => ?_, s.ntf⟩
  · by_cases hb : b = p
    · subst hb; rw [upd_same] at e ⊢; exact e
    · rw [upd_ne hb] at e ⊢; exact s.sub _ _ e
  · rw [upd_ne (nb _ _ (s.frm _ _ e))]; exact s.frm _ _ e
  · rw [upd_ne (nb _ _ (s.frm _ _ e))]; exact s.dis _ _ e
  · obtain ⟨v, h1, h2⟩ := s.val i d e
    exact ⟨v, h1, h2.mono sg⟩
  · obtain ⟨q, vs, h1, h2, h3, h4, h5⟩ := s.own i xs e
    exact ⟨q, vs, h1, by rw [upd_ne (nb _ _ h2)]; exact h2, h3.mono sg, by rw [upd_ne (nb _ _ h2)]; exact h4, h5⟩
  · obtain ⟨ps, hp⟩ := s.tab_at hx
    rw [upd_ne (nb _ _ hp)]
    exact s.tnf x hx
  · by_cases hb : b = p
    · subst hb; rw [upd_same] at e; exact no ps (Option.some.inj e)
    · rw [upd_ne hb] at e; exact s.ntg b ps e
/-- a new object that the heap has and nothing is frozen of -/
theorem S.newH (s : S (K, T) F σ G H δ) {p : Addr} {o : HO} (h : H p = none) : S (K, T) F σ G (upd H p o) δ := by
  have nb : ∀ b x, H b = some x → b ≠ p := fun b x e => ne_of_none e h
  refine ⟨fun b x e => ?_, fun b x e => ?_, s.dis, s.len, s.val, fun i xs e => ?_, s.inj, s.tab.ext (same_upd h), s.tnf, s.ntg, s.ntf⟩
  · rw [upd_ne (nb _ _ (s.sub _ _ e))]; exact s.sub _ _ e
  · rw [upd_ne (nb _ _ (s.frm _ _ e))]; exact s.frm _ _ e
  · obtain ⟨q, vs, h1, h2, h3, h4, h5⟩ := s.own i xs e
    exact ⟨q, vs, h1, by rw [upd_ne (nb _ _ h2)]; exact h2, h3, h4, h5⟩
theorem S.new_none (s : S (K, T) F σ G H δ) {p : Addr} (h : H p = none) : G p = none := s.sub.free h
/-- what is frozen is still there in another state -/
theorem S.store (s : S (K, T) F σ G H δ) {v : V} {d : D} (i : Nat) (r : Rep K G v d) : S (K, T) F (σ.set i (some v)) G H (δ.set i (.val d)) := by
  refine ⟨s.sub, s.frm, s.dis, by simp [s.len], fun j e h => ?_, fun j xs h => ?_, fun j k xs ys hn h1 h2 => ?_, s.tab, s.tnf, s.ntg, s.ntf⟩
  · by_cases hj : i = j
    · subst hj
      have hl : i < δ.length := by
        cases Nat.lt_or_ge i δ.length with
        | inl h => exact h
        | inr h' => rw [List.getElem?_eq_none_iff.mpr (by simpa using h')] at h; cases h
      rw [List.getElem?_set_self hl] at h
      cases h
      exact ⟨v, by rw [List.getElem?_set_self (by rw [← s.len]; exact hl)], r⟩
    · rw [List.getElem?_set_ne hj] at h ⊢
      exact s.val j e h
  · by_cases hj : i = j
    · subst hj
      have hl : i < δ.length := by
        cases Nat.lt_or_ge i δ.length with
        | inl h => exact h
        | inr h' => rw [List.getElem?_eq_none_iff.mpr (by simpa using h')] at h; cases h
      rw [List.getElem?_set_self hl] at h
      cases h
    · rw [List.getElem?_set_ne hj] at h ⊢
      exact s.own j xs h
  · have nj : ∀ (j : Nat) (xs : List D), (δ.set i (.val d))[j]? = some (.own xs) → i ≠ j := fun j xs h hj => by
      subst hj
      have hl : i < δ.length := by
        cases Nat.lt_or_ge i δ.length with
        | inl h => exact h
        | inr h' => rw [List.getElem?_eq_none_iff.mpr (by simpa using h')] at h; cases h
      rw [List.getElem?_set_self hl] at h
      cases h
    have n1 := nj j xs h1
    have n2 := nj k ys h2
    rw [List.getElem?_set_ne n1] at h1 ⊢
    rw [List.getElem?_set_ne n2] at h2 ⊢
    exact s.inj j k xs ys hn h1 h2
theorem get_set {α : Type} {l : List α} {i j : Nat} {a b : α} (h : (l.set i a)[j]? = some b) : (i = j ∧ i < l.length ∧ b = a) ∨ (i ≠ j ∧ l[j]? = some b) := by
  by_cases hj : i = j
  · subst hj
    have hl : i < l.length := by
      cases Nat.lt_or_ge i l.length with
      | inl h => exact h
      | inr h' => rw [List.getElem?_eq_none_iff.mpr (by simpa using h')] at h; cases h
    rw [List.getElem?_set_self hl] at h
    cases h
    exact .inl ⟨rfl, hl, rfl⟩
  · rw [List.getElem?_set_ne hj] at h
    exact .inr ⟨hj, h⟩
/-- a slot is forgotten, with whatever stands in it -/
theorem S.wipe (s : S (K, T) F σ G H δ) (i : Nat) (v : Option V) : S (K, T) F (σ.set i v) G H (δ.set i .un) := by
  refine ⟨s.sub, s.frm, s.dis, by simp [s.len], fun j e h => ?_, fun j xs h => ?_, fun j k xs ys hn h1 h2 => ?_, s.tab, s.tnf, s.ntg, s.ntf⟩
  · rcases get_set h with ⟨_, _, z⟩ | ⟨hj, h⟩
    · cases z
    · rw [List.getElem?_set_ne hj]; exact s.val j e h
  · rcases get_set h with ⟨_, _, z⟩ | ⟨hj, h⟩
    · cases z
    · rw [List.getElem?_set_ne hj]; exact s.own j xs h
  · rcases get_set h1 with ⟨_, _, z⟩ | ⟨hj, h1⟩
    · cases z
    · rcases get_set h2 with ⟨_, _, z⟩ | ⟨hk, h2⟩
      · cases z
      · rw [List.getElem?_set_ne hj, List.getElem?_set_ne hk]; exact s.inj j k xs ys hn h1 h2
/-- a new list of one's own is stored -/
theorem S.storeOwn (s : S (K, T) F σ G H δ) {p : Addr} {vs : List V} {xs : List D} (i : Nat) (h : H p = none) (r : RepL K G vs xs) : S (K, T) F (σ.set i (some (.ref p))) G (upd H p (.lst vs)) (δ.set i (.own xs)) := by
  have s1 := s.newH (o := .lst vs) h
  have nb : ∀ b x, H b = some x → b ≠ p := fun b x e => ne_of_none e h
  have gp : G p = none := s.sub.free h
  have fp : F p = none := s.frm.free h
  refine ⟨s1.sub, s1.frm, s1.dis, by simp [s.len], fun j e h' => ?_, fun j ys h' => ?_, fun j k ys zs hn h1 h2 => ?_, s1.tab, s1.tnf, s1.ntg, s1.ntf⟩
  · rcases get_set h' with ⟨_, _, z⟩ | ⟨hj, h'⟩
    · cases z
    · rw [List.getElem?_set_ne hj]; exact s.val j e h'
  · rcases get_set h' with ⟨hj, hl, z⟩ | ⟨hj, h'⟩
    · cases z
      subst hj
      exact ⟨p, vs, by rw [List.getElem?_set_self (by rw [← s.len]; exact hl)], upd_same, r, gp, fp⟩
    · rw [List.getElem?_set_ne hj]; exact s1.own j ys h'
  · have ne : ∀ (j : Nat) ys, δ[j]? = some (.own ys) → σ[j]? ≠ some (some (.ref p)) := fun j ys h' z => by
      obtain ⟨q, ws, e1, e2, _⟩ := s.own j ys h'
      rw [z] at e1
      cases e1
      exact nb _ _ e2 rfl
    rcases get_set h1 with ⟨hj, hl, z⟩ | ⟨hj, h1⟩
    · rcases get_set h2 with ⟨hk, _, z2⟩ | ⟨hk, h2⟩
      · exact absurd (hj.symm.trans hk) hn
      · subst hj
        rw [List.getElem?_set_self (by rw [← s.len]; exact hl), List.getElem?_set_ne hk]
        exact Ne.symm (ne _ _ h2)
    · rcases get_set h2 with ⟨hk, hl, z2⟩ | ⟨hk, h2⟩
      · subst hk
        rw [List.getElem?_set_self (by rw [← s.len]; exact hl), List.getElem?_set_ne hj]
        exact ne _ _ h1
      · rw [List.getElem?_set_ne hj, List.getElem?_set_ne hk]; exact s.inj j k ys zs hn h1 h2
/-- a list of one's own is changed -/
theorem S.setOwn (s : S (K, T) F σ G H δ) {i : Nat} {xs ys : List D} {p : Addr} {ws : List V} (h : δ[i]? = some (.own xs)) (hp : σ[i]? = some (some (.ref p))) (r : RepL K G ws ys) : S (K, T) F σ G (upd H p (.lst ws)) (δ.set i (.own ys)) := by
  obtain ⟨q, vs, e1, e2, e3, e4, e5⟩ := s.own i xs h
  rw [hp] at e1
  cases e1
  have gn : ∀ b x, G b = some x → b ≠ p := fun b x e => ne_of_none e e4
  have fn : ∀ b x, F b = some x → b ≠ p := fun b x e => ne_of_none e e5
  refine ⟨fun b x e => ?_, fun b x e => ?_, s.dis, by simp [s.len], fun j e h' => ?_, fun j zs h' => ?_, fun j k zs us hn h1 h2 => ?_, tabs_lst s.tab e2, s.tnf, s.ntg, s.ntf⟩
  · rw [upd_ne (gn _ _ e)]; exact s.sub _ _ e
  · rw [upd_ne (fn _ _ e)]; exact s.frm _ _ e
  · rcases get_set h' with ⟨_, _, z⟩ | ⟨hj, h'⟩
    · cases z
    · exact s.val j e h'
  · rcases get_set h' with ⟨hj, hl, z⟩ | ⟨hj, h'⟩
    · cases z
      subst hj
      exact ⟨p, ws, hp, upd_same, r, e4, e5⟩
    · obtain ⟨q, us, f1, f2, f3, f4, f5⟩ := s.own j zs h'
      refine ⟨q, us, f1, ?_, f3, f4, f5⟩
      rw [upd_ne]
      · exact f2
      · rintro rfl
        exact s.inj i j xs zs hj h h' (hp.trans f1.symm)
  · have back : ∀ (j : Nat) zs, (δ.set i (.own ys))[j]? = some (.own zs) → ∃ us, δ[j]? = some (.own us) := fun j zs h' => by
      rcases get_set h' with ⟨hj, hl, z⟩ | ⟨hj, h'⟩
      · subst hj; exact ⟨xs, h⟩
      · exact ⟨zs, h'⟩
    obtain ⟨u1, g1⟩ := back j zs h1
    obtain ⟨u2, g2⟩ := back k us h2
    exact s.inj j k u1 u2 hn g1 g2
/-- a list of one's own is frozen: from now on a value -/
theorem S.freeze (s : S (K, T) F σ G H δ) {i : Nat} {xs : List D} (h : δ[i]? = some (.own xs)) : ∃ p vs, σ[i]? = some (some (.ref p)) ∧ G p = none ∧ H p = some (.lst vs) ∧ RepL K G vs xs ∧ S (K, T) F σ (upd G p (.lst vs)) H (δ.set i (.val (.lst xs))) := by
  obtain ⟨p, vs, e1, e2, e3, e4, e5⟩ := s.own i xs h
  refine ⟨p, vs, e1, e4, e2, e3, ?_⟩
  have sg : Same G (upd G p (.lst vs)) := same_upd e4
  refine ⟨fun b x e => ?_, s.frm, fun b x e => ?_, by simp [s.len], fun j d h' => ?_, fun j zs h' => ?_, fun j k zs us hn h1 h2 => ?_, s.tab, fun x hx => ⟨(s.tnf x hx).1, ?_⟩, fun b ps e => ?_, s.ntf⟩
  · by_cases hb : b = p
    · subst hb; rw [upd_same] at e; rw [← e]; exact e2
    · rw [upd_ne hb] at e; exact s.sub _ _ e
  · rw [upd_ne (ne_of_none e e5)]; exact s.dis _ _ e
  · rcases get_set h' with ⟨hj, hl, z⟩ | ⟨hj, h'⟩
    · cases z
      subst hj
      exact ⟨_, e1, .lst upd_same (e3.mono sg)⟩
    · obtain ⟨v, f1, f2⟩ := s.val j d h'
      exact ⟨v, f1, f2.mono sg⟩
  · rcases get_set h' with ⟨hj, hl, z⟩ | ⟨hj, h'⟩
    · cases z
    · obtain ⟨q, us, f1, f2, f3, f4, f5⟩ := s.own j zs h'
      refine ⟨q, us, f1, f2, f3.mono sg, ?_, f5⟩
      rw [upd_ne]
      · exact f4
      · rintro rfl
        exact s.inj i j xs zs hj h h' (e1.trans f1.symm)
  · rcases get_set h1 with ⟨hj, hl, z⟩ | ⟨hj, h1⟩
    · cases z
    · rcases get_set h2 with ⟨hk, hl, z⟩ | ⟨hk, h2⟩
      · cases z
      · exact s.inj j k zs us hn h1 h2
  · obtain ⟨ps, hp⟩ := s.tab_at hx
    rw [upd_ne]
    · exact (s.tnf x hx).2
    · intro e; rw [e, e2] at hp; cases hp
  · by_cases hb : b = p
    · subst hb; rw [upd_same] at e; cases e
    · rw [upd_ne hb] at e; exact s.ntg b ps e
end
end FL

set_option Elab.async false
set_option linter.all false
set_option maxRecDepth 100000
set_option maxHeartbeats 2000000
/-! FL2: effects, contexts, judgements; rules of expressions. -/
namespace FL
open PySem PySem.Spec PyProof.Rows L2

/-! ### effects -/
inductive R (α : Type) where
  | ok (a : α) (δ : De) | ex (c : Nat)
abbrev M (α : Type) := De → Option (R α)
def bindM {α β : Type} (m : M α) (k : α → M β) : M β := fun δ => match m δ with
  | none => none
  | some (.ex c) => some (.ex c)
  | some (.ok a δ') => k a δ'
def pureM {α : Type} (a : α) : M α := fun δ => some (.ok a δ)
def liftO {α : Type} : Option α → M α
  | some a => pureM a
  | none => fun _ => none
@[simp] theorem liftO_some {α : Type} (a : α) : liftO (some a) = pureM a := rfl
@[simp] theorem liftO_none {α : Type} : liftO (none : Option α) = fun _ => none := rfl
@[simp] theorem bindM_pure {α β : Type} (a : α) (k : α → M β) : bindM (pureM a) k = k a := rfl
theorem bindM_ok {α β : Type} {m : M α} {k : α → M β} {δ δ' : De} {a : α} (h : m δ = some (.ok a δ')) : bindM m k δ = k a δ' := by unfold bindM; rw [h]
theorem bindM_ex {α β : Type} {m : M α} {k : α → M β} {δ : De} {c : Nat} (h : m δ = some (.ex c)) : bindM m k δ = some (.ex c) := by unfold bindM; rw [h]

section
variable (κ : PySem.W.Frag × List (Addr × PySem.Str)) (cl : Nat → Addr) (E : XK) (F : Hp) (σ : L2.St) (G : Hp)
def Post {ν α : Type} (RA : Hp → ν → α → Prop) (Q : ν → Hp → Prop) : R α → Prop
  | .ok a δ' => ∀ G' H' v, S κ F σ G' H' δ' → Same G G' → RA G' v a → Q v H'
  | .ex c => ∀ G' H', Same G G' → Same G' H' → Same F H' → E (.ref (cl c)) none H'
end
def Sp2 (κ : PySem.W.Frag × List (Addr × PySem.Str)) (cl : Nat → Addr) (E : XK) {ν α : Type} (RA : Hp → ν → α → Prop) (t : L2.St → Hp → (ν → Hp → Prop) → Prop) (f : M α) : Prop :=
  ∀ F σ G H δ r, S κ F σ G H δ → f δ = some r → ∀ Q, Post κ cl E F σ G RA Q r → t σ H Q
section
variable {K : PySem.W.Frag} {T : List (Addr × PySem.Str)} {cl : Nat → Addr} {E : XK}
theorem Post.weak {F : Hp} {σ : L2.St} {G G1 : Hp} {ν α : Type} {RA : Hp → ν → α → Prop} {Q : ν → Hp → Prop} (e : Same G G1) : ∀ {r : R α}, Post (K, T) cl E F σ G RA Q r → Post (K, T) cl E F σ G1 RA Q r
  | .ok _ _, h => fun G' H' v s g => h G' H' v s (e.trans g)
  | .ex _, h => fun G' H' g => h G' H' (e.trans g)
theorem Sp2.bind {ν μ α β : Type} {RA : Hp → ν → α → Prop} {RB : Hp → μ → β → Prop} {ta : L2.St → Hp → (ν → Hp → Prop) → Prop} {fa : M α} (ha : Sp2 (K, T) cl E RA ta fa)
    {k : ν → L2.St → Hp → (μ → Hp → Prop) → Prop} {g : α → M β}
    (hk : ∀ F σ G H δ x a r, S (K, T) F σ G H δ → RA G x a → g a δ = some r → ∀ Q, Post (K, T) cl E F σ G RB Q r → k x σ H Q) :
    Sp2 (K, T) cl E RB (fun σ H Q => ta σ H fun x H1 => k x σ H1 Q) (bindM fa g) := by
  intro F σ G H δ r s e Q p
  unfold bindM at e
  cases h : fa δ with
  | none => rw [h] at e; cases e
  | some ra =>
    rw [h] at e
    refine ha F σ G H δ ra s h _ ?_
    cases ra with
    | ex c =>
      cases e
      exact p
    | ok a δ' =>
      exact fun G' H' v s' g' rv => hk F σ G' H' δ' v a r s' rv e Q (p.weak g')
theorem Sp2.pure {ν α : Type} {RA : Hp → ν → α → Prop} {v : ν} {a : α} (h : ∀ G, RA G v a) : Sp2 (K, T) cl E RA (fun _ H Q => Q v H) (pureM a) := by
  intro F σ G H δ r s e Q p
  cases e
  exact p G H v s (Same.refl _) (h G)
end

/-- a step: the first part, then the rest from where it leaves -/
theorem Sp2.step {K : PySem.W.Frag} {T : List (Addr × PySem.Str)} {cl : Nat → Addr} {E : XK} {ν μ α β : Type} {RA : Hp → ν → α → Prop} {RB : Hp → μ → β → Prop} {ta : L2.St → Hp → (ν → Hp → Prop) → Prop} {fa : M α} (ha : Sp2 (K, T) cl E RA ta fa) {F : Hp} {σ : L2.St} {G H : Hp} {δ : De} {g : α → M β} {r : R β} {Q : μ → Hp → Prop} {k : ν → Hp → Prop}
    (s : S (K, T) F σ G H δ) (e : bindM fa g δ = some r) (p : Post (K, T) cl E F σ G RB Q r)
    (hk : ∀ G' H' δ' x a, S (K, T) F σ G' H' δ' → Same G G' → RA G' x a → g a δ' = some r → Post (K, T) cl E F σ G' RB Q r → k x H') : ta σ H k := by
  unfold bindM at e
  cases h : fa δ with
  | none => rw [h] at e; cases e
  | some ra =>
    rw [h] at e
    refine ha F σ G H δ ra s h _ ?_
    cases ra with
    | ex c =>
      cases e
      exact p
    | ok a δ' => exact fun G' H' v s' g' rv => hk G' H' δ' v a s' g' rv e (p.weak g')
theorem liftO_eq {β : Type} {o : Option β} {δ : De} {r : R β} (e : liftO o δ = some r) : ∃ b, o = some b ∧ r = .ok b δ := by
  cases o with
  | none => cases e
  | some b => cases e; exact ⟨b, rfl, rfl⟩

/-! ### contexts -/
structure SC where
  P : Program
  w : World
  K : PySem.W.Frag
  mg : Str → Option Value
  base : Heap
  N : List Str
  sc : Scope
  k : Nat
  cl : Nat → Addr
  E : XK
  st : Str → Bool
  T : List (Addr × PySem.Str)
  code : Value
  qual : Str
abbrev SC.κ (c : SC) : PySem.W.Frag × List (Addr × PySem.Str) := (c.K, c.T)
structure In (c : SC) (X : Cx) : Prop where
  P : X.prog = c.P
  w : X.w = c.w
  K : X.K = c.K
  mg : X.mg = c.mg
  base : X.base = c.base
  N : X.N = c.N
  sc : X.env.scope = c.sc
  calm : X.calm = true
  room : Room c.k X.A
  tk : Takes X (fun cls d _ H => c.E cls d H)
  fn : ∀ x, c.st x = true → X.fn x = true ∨ X.env.scope.names.lookup x = some .local
  po : PassesOwn (model X.prog X.w) X.A X.env X.xe
  code : c.T = [] ∨ (X.env.code = c.code ∧ X.env.qual = c.qual)

structure FE (c : SC) (e : Expr) (f : M D) : Prop where
  ex : ∃ t, (∀ X, In c X → PE X e t) ∧ Sp2 c.κ c.cl c.E (Rep c.K) t f
structure FA (c : SC) (es : List Expr) (f : M (List D)) : Prop where
  ex : ∃ t, (∀ X, In c X → PA X es t) ∧ Sp2 c.κ c.cl c.E (RepL c.K) t f
def RepB (_ : Hp) (b b' : Bool) : Prop := b = b'
structure FT (c : SC) (e : Expr) (f : M Bool) : Prop where
  ex : ∃ t, (∀ X, In c X → PT X e t) ∧ Sp2 c.κ c.cl c.E RepB t f
structure FW (c : SC) (e : Expr) (f : M Bool) : Prop where
  ex : ∃ t, (∀ X, In c X → PW X e t) ∧ Sp2 c.κ c.cl c.E RepB t f

section
variable {c : SC}
/-! ### names, constants -/
def varM (i : Nat) : M D := fun δ => match δ[i]? with
  | some (.val d) => some (.ok d δ)
  | _ => none
theorem fe_var (i : Nat) {x : Str} {pos : Pos} (hN : c.N[i]? = some x := by rfl) (hv : Vis c.sc x := by first | exact Or.inl rfl | exact Or.inr (Or.inl rfl) | exact Or.inr (Or.inr rfl)) (hd : (x == ("__debug__" : Str)) = false := by decide)
    (hcd : (x == ("__classdict__" : Str)) = false := by decide) : FE c (.Name x pos) (varM i) := by
  refine ⟨tVar i, fun X h => pe_var (by rw [h.N]; exact hN) (by rw [h.sc]; exact hv) hd hcd, fun F σ G H δ r s e Q p => ?_⟩
  unfold varM at e
  split at e
  · rename_i d hd
    cases e
    obtain ⟨v, h1, h2⟩ := s.val i d hd
    exact ⟨v, h1, p G H v s (Same.refl _) h2⟩
  · cases e
theorem fe_int {i : Int} {j pos} : FE c (.Constant (.int i) j pos) (pureM (.int i)) := ⟨_, fun _ _ => pe_int, Sp2.pure fun _ => .int i⟩
theorem fe_bl {b : Bool} {j pos} : FE c (.Constant (.bool b) j pos) (pureM (.bl b)) := ⟨_, fun _ _ => pe_bl, Sp2.pure fun _ => .bl b⟩
theorem fe_non {j pos} : FE c (.Constant .none j pos) (pureM .non) := ⟨_, fun _ _ => pe_non, Sp2.pure fun _ => .non⟩
theorem fe_str {x : Str} {j pos} : FE c (.Constant (.str x) j pos) (pureM (.str x)) := ⟨_, fun _ _ => pe_str, Sp2.pure fun _ => .str x⟩
/-- a module's constant -/
structure Const (K : PySem.W.Frag) (mg : Str → Option Value) (x : Str) (d : D) : Prop where
  ex : ∃ v u, mg x = some u ∧ RelV v u ∧ ∀ G, Rep K G v d
theorem fe_const {x : Str} {d : D} {pos : Pos} (h : Const c.K c.mg x d) (hg : c.sc.names.lookup x = some .globalImplicit := by rfl) (hd : (x == ("__debug__" : Str)) = false := by decide) : FE c (.Name x pos) (pureM d) := by
  obtain ⟨v, u, hm, r, hr⟩ := h.ex
  exact ⟨_, fun X h => pe_glob (show X.env.scope.names.lookup x = _ by rw [h.sc]; exact hg) (by rw [h.mg]; exact hm) r hd, Sp2.pure hr⟩

/-! ### operators -/
structure Op2 (K : PySem.W.Frag) (r : R2) (g : D → D → Option D) : Prop where
  run : ∀ T F σ G H δ v u a b d, S (K, T) F σ G H δ → Rep K G v a → Rep K G u b → g a b = some d → ∀ Q : VK, (∀ G' H' w, S (K, T) F σ G' H' δ → Same G G' → Rep K G' w d → Q w H') → r v u H Q
def bin2 (g : D → D → Option D) (fa fb : M D) : M D := bindM fa fun x => bindM fb fun y => liftO (g x y)
theorem Sp2.op2 {K : PySem.W.Frag} {T : List (Addr × PySem.Str)} {cl : Nat → Addr} {E : XK} {r : R2} {g : D → D → Option D} {ta tb : TE} {fa fb : M D} (hr : Op2 K r g) (ha : Sp2 (K, T) cl E (Rep K) ta fa) (hb : Sp2 (K, T) cl E (Rep K) tb fb) : Sp2 (K, T) cl E (Rep K) (tOp r ta tb) (bin2 g fa fb) := by
  intro F σ G H δ r s e Q p
  refine ha.step s e p fun G1 H1 δ1 x a s1 g1 rx e1 p1 => ?_
  refine hb.step s1 e1 p1 fun G2 H2 δ2 y b s2 g2 ry e2 p2 => ?_
  obtain ⟨d, hd, rfl⟩ := liftO_eq e2
  exact hr.run _ F σ G2 H2 δ2 x y a b d s2 (rx.mono g2) ry hd Q fun G' H' w s' g' rw' => p2 G' H' w s' g' rw'
theorem Op2.or {K : PySem.W.Frag} {r r' : R2} {g g' : D → D → Option D} (h : Op2 K r g) (h' : Op2 K r' g') : Op2 K (fun x y H Q => r x y H Q ∨ r' x y H Q) (fun a b => (g a b).or (g' a b)) := by
  refine ⟨fun T F σ G H δ v u a b d s rv ru e Q q => ?_⟩
  cases h1 : g a b with
  | some d' =>
    rw [h1, Option.some_or] at e
    cases e
    exact .inl (h.run _ F σ G H δ v u a b _ s rv ru h1 Q q)
  | none =>
    rw [h1, Option.none_or] at e
    exact .inr (h'.run _ F σ G H δ v u a b _ s rv ru e Q q)
theorem Op2.imp {K : PySem.W.Frag} {r : R2} {g g' : D → D → Option D} (h : Op2 K r g) (i : ∀ a b d, g' a b = some d → g a b = some d) : Op2 K r g' :=
  ⟨fun T F σ G H δ v u a b d s rv ru e Q q => h.run _ F σ G H δ v u a b d s rv ru (i _ _ _ e) Q q⟩
def int2 (gd : Int → Int → D) : D → D → Option D
  | .int i, .int j => some (gd i j)
  | _, _ => none
def int2C (C : Int → Int → Prop) [∀ i j, Decidable (C i j)] (gd : Int → Int → D) : D → D → Option D
  | .int i, .int j => if C i j then some (gd i j) else none
  | _, _ => none
theorem op2_I0 {K : PySem.W.Frag} {g : Int → Int → V} {gd : Int → Int → D} (h : ∀ i j G, Rep K G (g i j) (gd i j)) : Op2 K (rI0 g) (int2 gd) := by
  refine ⟨fun T F σ G H δ v u a b d s rv ru e Q q => ?_⟩
  unfold int2 at e
  split at e
  · cases e
    cases rv
    cases ru
    exact ⟨_, _, rfl, rfl, q G H _ s (Same.refl _) (h _ _ _)⟩
  · cases e
theorem op2_I {K : PySem.W.Frag} {C : Int → Int → Prop} [∀ i j, Decidable (C i j)] {g : Int → Int → V} {gd : Int → Int → D} (h : ∀ i j G, Rep K G (g i j) (gd i j)) : Op2 K (rI C g) (int2C C gd) := by
  refine ⟨fun T F σ G H δ v u a b d s rv ru e Q q => ?_⟩
  unfold int2C at e
  split at e
  · split at e
    · rename_i hC
      cases e
      cases rv
      cases ru
      exact ⟨_, _, rfl, rfl, hC, q G H _ s (Same.refl _) (h _ _ _)⟩
    · cases e
  · cases e
instance (i j : Int) : Decidable (CMul i j) := by unfold CMul; infer_instance
instance (i j : Int) : Decidable (CDivN i j) := by unfold CDivN; infer_instance
instance (i j : Int) : Decidable (CPow i j) := by unfold CPow; infer_instance
theorem fe_op {op : Operator} {r : R2} {g : D → D → Option D} {a b : Expr} {fa fb : M D} {pos : Pos} (ho : ∀ X, In c X → OpR X (binaryOp op) r) (hr : Op2 c.K r g) (ha : FE c a fa) (hb : FE c b fb) : FE c (.BinOp a op b pos) (bin2 g fa fb) := by
  obtain ⟨ta, pa, sa⟩ := ha.ex
  obtain ⟨tb, pb, sb⟩ := hb.ex
  exact ⟨_, fun X h => pe_op (ho X h) (pa X h) (pb X h), Sp2.op2 hr sa sb⟩
def subD := int2 fun i j => .int (i - j)
def mulD := int2C CMul fun i j => .int (i * j)
def fdivD := int2C CDivN fun i j => .int (i.fdiv j)
def modD := int2C (fun _ j => 0 < j) fun i j => .int (i % j)
def powD := int2C CPow fun i j => .int (i ^ j.toNat)
theorem fe_sub {a b : Expr} {fa fb : M D} {pos : Pos} (ha : FE c a fa) (hb : FE c b fb) : FE c (.BinOp a .Sub b pos) (bin2 subD fa fb) := fe_op (fun _ _ => op_sub) (op2_I0 fun _ _ _ => .int _) ha hb
theorem fe_mul {a b : Expr} {fa fb : M D} {pos : Pos} (ha : FE c a fa) (hb : FE c b fb) : FE c (.BinOp a .Mult b pos) (bin2 mulD fa fb) := fe_op (fun _ _ => op_mul) (op2_I fun _ _ _ => .int _) ha hb
theorem fe_fdiv {a b : Expr} {fa fb : M D} {pos : Pos} (ha : FE c a fa) (hb : FE c b fb) : FE c (.BinOp a .FloorDiv b pos) (bin2 fdivD fa fb) := fe_op (fun _ _ => op_fdivN) (op2_I fun _ _ _ => .int _) ha hb
theorem fe_mod {a b : Expr} {fa fb : M D} {pos : Pos} (ha : FE c a fa) (hb : FE c b fb) : FE c (.BinOp a .Mod b pos) (bin2 modD fa fb) := fe_op (fun _ _ => op_mod) (op2_I fun _ _ _ => .int _) ha hb
theorem fe_pow {a b : Expr} {fa fb : M D} {pos : Pos} (ha : FE c a fa) (hb : FE c b fb) : FE c (.BinOp a .Pow b pos) (bin2 powD fa fb) := fe_op (fun _ _ => op_pow) (op2_I fun _ _ _ => .int _) ha hb
/-- + of ints, texts, lists -/
def strAdd : D → D → Option D
  | .str x, .str y => if x.length + y.length ≤ sizeLine then some (.str (x ++ y)) else none
  | _, _ => none
theorem op2_strAdd {K : PySem.W.Frag} : Op2 K (fun x y H Q => ∃ i j, x = V.str i ∧ y = V.str j ∧ i.length + j.length ≤ sizeLine ∧ Q (.str (i ++ j)) H) strAdd := by
  refine ⟨fun T F σ G H δ v u a b d s rv ru e Q q => ?_⟩
  unfold strAdd at e
  split at e
  · split at e
    · rename_i hC
      cases e
      cases rv
      cases ru
      exact ⟨_, _, rfl, rfl, hC, q G H _ s (Same.refl _) (.str _)⟩
    · cases e
  · cases e
def lstAdd : D → D → Option D
  | .lst x, .lst y => if x.length + y.length ≤ 1000000 then some (.lst (x ++ y)) else none
  | _, _ => none
theorem small6 {n : Nat} (h : n ≤ 1000000) : n ≤ sizeLine := by rw [sizeLine_eq]; omega
theorem op2_cat {K : PySem.W.Frag} : Op2 K rCat lstAdd := by
  refine ⟨fun T F σ G H δ v u a b d s rv ru e Q q => ?_⟩
  unfold lstAdd at e
  split at e
  · split at e
    · rename_i hC
      cases e
      cases rv with
      | lst h1 r1 =>
        cases ru with
        | lst h2 r2 =>
          refine ⟨_, _, _, _, rfl, rfl, s.sub _ _ h1, s.sub _ _ h2, by rw [r1.length, r2.length]; exact small6 hC, fun p hp => ?_⟩
          have gp := s.sub.free hp
          exact q _ _ _ (s.new hp) (same_upd gp) (.lst upd_same ((r1.mono (same_upd gp)).append (r2.mono (same_upd gp))))
    · cases e
  · cases e
def addD (a b : D) : Option D := (int2 (fun i j => .int (i + j)) a b).or ((strAdd a b).or (lstAdd a b))
theorem fe_add {a b : Expr} {fa fb : M D} {pos : Pos} (ha : FE c a fa) (hb : FE c b fb) : FE c (.BinOp a .Add b pos) (bin2 addD fa fb) :=
  fe_op (fun _ _ => op_add.or (op_add_str.or op_cat)) ((op2_I0 fun _ _ _ => .int _).or (op2_strAdd.or op2_cat)) ha hb
/-! unary minus -/
def negD : D → Option D
  | .int i => some (.int (-i))
  | _ => none
def un1 (g : D → Option D) (fa : M D) : M D := bindM fa fun x => liftO (g x)
theorem fe_neg {a : Expr} {fa : M D} {pos : Pos} (ha : FE c a fa) : FE c (.UnaryOp .USub a pos) (un1 negD fa) := by
  obtain ⟨ta, pa, sa⟩ := ha.ex
  refine ⟨_, fun X h => pe_un un_neg (pa X h), fun F σ G H δ r s e Q p => ?_⟩
  refine sa.step s e p fun G1 H1 δ1 x a s1 g1 rx e1 p1 => ?_
  obtain ⟨d, hd, rfl⟩ := liftO_eq e1
  cases a <;> cases hd
  cases rx
  exact ⟨_, rfl, p1 G1 H1 _ s1 (Same.refl _) (.int _)⟩

/-! ### comparisons -/
mutual
def toPy : D → Option PyData
  | .non => some .none
  | .bl b => some (.bool b)
  | .int i => some (.int i)
  | .str s => some (.str s)
  | .lst xs => (toPyL xs).map .list
  | .tup xs => (toPyL xs).map .tuple
  | .ins _ _ => none
  | .fn _ => none
def toPyL : List D → Option (List PyData)
  | [] => some []
  | x :: xs => match toPy x, toPyL xs with
    | some a, some b => some (a :: b)
    | _, _ => none
end
mutual
theorem Rep.dp {K : PySem.W.Frag} {G : Hp} : ∀ {d : D} {v : V} {p : PyData}, Rep K G v d → toPy d = some p → Dp K G v p
  | .non, _, _, h, e => by cases h; cases e; exact .non
  | .bl b, _, _, h, e => by cases h; cases e; exact .bl b
  | .int i, _, _, h, e => by cases h; cases e; exact .int i
  | .str x, _, _, h, e => by cases h; cases e; exact .str x
  | .lst xs, _, _, h, e => by
    cases h with
    | lst h1 h2 =>
      rw [toPy] at e
      cases q : toPyL xs with
      | none => rw [q] at e; cases e
      | some ps => rw [q] at e; cases e; exact .lst (.of h1) (RepL.dp h2 q)
  | .tup xs, _, _, h, e => by
    cases h with
    | tup h1 h2 =>
      rw [toPy] at e
      cases q : toPyL xs with
      | none => rw [q] at e; cases e
      | some ps => rw [q] at e; cases e; exact .tup h1 (RepL.dp h2 q)
  | .ins _ _, _, _, _, e => by cases e
  | .fn _, _, _, _, e => by cases e
theorem RepL.dp {K : PySem.W.Frag} {G : Hp} : ∀ {ds : List D} {vs : List V} {ps : List PyData}, RepL K G vs ds → toPyL ds = some ps → DpAll K G vs ps
  | [], _, _, h, e => by cases h; cases e; exact .nil
  | d :: ds, _, _, h, e => by
    cases h with
    | cons h1 h2 =>
      rw [toPyL] at e
      split at e
      · rename_i a b q1 q2
        cases e
        exact .cons (Rep.dp h1 q1) (RepL.dp h2 q2)
      · cases e
end
mutual
theorem dp_mono {K : PySem.W.Frag} {G G' : Hp} (e : Same G G') : ∀ {v : V} {d : PyData}, Dp K G v d → Dp K G' v d
  | _, _, .non => .non
  | _, _, .bl b => .bl b
  | _, _, .int i => .int i
  | _, _, .str x => .str x
  | _, _, .lst h r => .lst (e.seq h) (dpAll_mono e r)
  | _, _, .tup h r => .tup (seqT e h) (dpAll_mono e r)
theorem dpAll_mono {K : PySem.W.Frag} {G G' : Hp} (e : Same G G') : ∀ {v : List V} {d : List PyData}, DpAll K G v d → DpAll K G' v d
  | _, _, .nil => .nil
  | _, _, .cons h r => .cons (dp_mono e h) (dpAll_mono e r)
end
/-- == by value; none where it is not served -/
def eqB (a b : D) : Option Bool := match toPy a, toPy b with
  | some p, some q => if SeqAt.shaped p && SeqAt.shaped q then some (PyData.eqv p q) else none
  | _, _ => none
def eqD (a b : D) : Option D := (eqB a b).map .bl
def neD (a b : D) : Option D := (eqB a b).map fun k => .bl (!k)
theorem eqB_some {a b : D} {k : Bool} (h : eqB a b = some k) : ∃ p q, toPy a = some p ∧ toPy b = some q ∧ SeqAt.shaped p = true ∧ SeqAt.shaped q = true ∧ PyData.eqv p q = k := by
  unfold eqB at h
  split at h
  · rename_i p q h1 h2
    split at h
    · rename_i h3
      cases h
      rw [Bool.and_eq_true] at h3
      exact ⟨p, q, h1, h2, h3.1, h3.2, rfl⟩
    · cases h
  · cases h
theorem op2_eq {K : PySem.W.Frag} : Op2 K (rEqD K) eqD := by
  refine ⟨fun T F σ G H δ v u a b d s rv ru e Q q => ?_⟩
  unfold eqD at e
  cases h : eqB a b with
  | none => rw [h] at e; cases e
  | some k =>
    rw [h] at e
    cases e
    obtain ⟨p, p', h1, h2, h3, h4, h5⟩ := eqB_some h
    exact ⟨p, p', dp_mono s.sub (rv.dp h1), dp_mono s.sub (ru.dp h2), h3, h4, q G H _ s (Same.refl _) (h5 ▸ .bl _)⟩
theorem op2_ne {K : PySem.W.Frag} : Op2 K (rNeD K) neD := by
  refine ⟨fun T F σ G H δ v u a b d s rv ru e Q q => ?_⟩
  unfold neD at e
  cases h : eqB a b with
  | none => rw [h] at e; cases e
  | some k =>
    rw [h] at e
    cases e
    obtain ⟨p, p', h1, h2, h3, h4, h5⟩ := eqB_some h
    exact ⟨p, p', dp_mono s.sub (rv.dp h1), dp_mono s.sub (ru.dp h2), h3, h4, q G H _ s (Same.refl _) (h5 ▸ .bl _)⟩
def ltD := int2 fun i j => .bl (decide (i < j))
def leD := int2 fun i j => .bl (decide (i ≤ j))
def gtD := int2 fun i j => .bl (decide (j < i))
def geD := int2 fun i j => .bl (decide (j ≤ i))
def isN (neg : Bool) : D → D → Option D
  | .non, .non => some (.bl (!neg))
  | _, .non => some (.bl neg)
  | _, _ => none
theorem op2_isN {K : PySem.W.Frag} : Op2 K (fun x y H Q => y = V.non ∧ Q (.bl (decide (x = .non))) H) (isN false) := by
  refine ⟨fun T F σ G H δ v u a b d s rv ru e Q q => ?_⟩
  unfold isN at e
  split at e
  · cases e; cases rv; cases ru; exact ⟨rfl, q G H _ s (Same.refl _) (.bl _)⟩
  · rename_i hn
    cases e; cases ru
    refine ⟨rfl, q G H _ s (Same.refl _) ?_⟩
    have : v ≠ V.non := by rintro rfl; cases rv; exact hn rfl
    rw [decide_eq_false this]
    exact .bl _
  · cases e
theorem op2_notN {K : PySem.W.Frag} : Op2 K (fun x y H Q => y = V.non ∧ Q (.bl (!decide (x = .non))) H) (isN true) := by
  refine ⟨fun T F σ G H δ v u a b d s rv ru e Q q => ?_⟩
  unfold isN at e
  split at e
  · cases e; cases rv; cases ru; exact ⟨rfl, q G H _ s (Same.refl _) (.bl _)⟩
  · rename_i hn
    cases e; cases ru
    refine ⟨rfl, q G H _ s (Same.refl _) ?_⟩
    have : v ≠ V.non := by rintro rfl; cases rv; exact hn rfl
    rw [decide_eq_false this]
    exact .bl _
  · cases e
/-- in of flat values -/
def flatOf : D → Option V
  | .non => some .non
  | .bl b => some (.bl b)
  | .int i => some (.int i)
  | .str x => some (.str x)
  | _ => none
theorem Rep.flat {K : PySem.W.Frag} {G : Hp} {v w : V} {d : D} (r : Rep K G v d) (h : flatOf d = some w) : v = w ∧ flatV w = true := by
  cases d <;> simp only [flatOf, Option.some.injEq, reduceCtorEq] at h
  all_goals (subst h; cases r; exact ⟨rfl, rfl⟩)
def flatL : List D → Option (List V)
  | [] => some []
  | x :: xs => match flatOf x, flatL xs with
    | some a, some b => some (a :: b)
    | _, _ => none
theorem RepL.flat {K : PySem.W.Frag} {G : Hp} : ∀ {vs ws : List V} {ds : List D}, RepL K G vs ds → flatL ds = some ws → vs = ws ∧ ws.all flatV = true
  | _, _, [], .nil, e => by cases e; exact ⟨rfl, rfl⟩
  | _, _, d :: ds, .cons h t, e => by
    rw [flatL] at e
    split at e
    · rename_i a b q1 q2
      cases e
      obtain ⟨rfl, h1⟩ := h.flat q1
      obtain ⟨rfl, h2⟩ := RepL.flat t q2
      exact ⟨rfl, by simp only [List.all_cons, h1, h2, Bool.and_self]⟩
    · cases e
def inB (a b : D) : Option Bool := match flatOf a with
  | none => none
  | some x => match b with
    | .lst ds => (flatL ds).map fun ws => inV x ws
    | .tup ds => (flatL ds).map fun ws => inV x ws
    | _ => none
def inD (neg : Bool) (a b : D) : Option D := (inB a b).map fun k => .bl (if neg then !k else k)
theorem op2_in {K : PySem.W.Frag} (neg : Bool) : Op2 K (rIn K neg) (inD neg) := by
  refine ⟨fun T F σ G H δ v u a b d s rv ru e Q q => ?_⟩
  unfold inD at e
  cases h : inB a b with
  | none => rw [h] at e; cases e
  | some k =>
    rw [h] at e
    cases e
    unfold inB at h
    cases h1 : flatOf a with
    | none => rw [h1] at h; cases h
    | some x =>
      rw [h1] at h
      obtain ⟨rfl, f1⟩ := rv.flat h1
      cases b with
      | lst ds =>
        dsimp only at h
        cases h2 : flatL ds with
        | none => rw [h2] at h; cases h
        | some ws =>
          rw [h2] at h
          cases h
          cases ru with
          | lst g1 r1 =>
            obtain ⟨rfl, f2⟩ := r1.flat h2
            exact ⟨_, _, rfl, .inl (.of (s.sub _ _ g1)), f1, f2, q G H _ s (Same.refl _) (.bl _)⟩
      | tup ds =>
        dsimp only at h
        cases h2 : flatL ds with
        | none => rw [h2] at h; cases h
        | some ws =>
          rw [h2] at h
          cases h
          cases ru with
          | tup g1 r1 =>
            obtain ⟨rfl, f2⟩ := r1.flat h2
            exact ⟨_, _, rfl, .inr (seqT s.sub g1), f1, f2, q G H _ s (Same.refl _) (.bl _)⟩
      | _ => cases h
theorem fe_cmp {op : CmpOp} {r : R2} {g : D → D → Option D} {a b : Expr} {fa fb : M D} {pos : Pos} (ho : ∀ X, In c X → OpR X (compareOp op) r) (hr : Op2 c.K r g) (ha : FE c a fa) (hb : FE c b fb) (hm : behindInMarks op b = false) : FE c (.Compare a [op] [b] pos) (bin2 g fa fb) := by
  obtain ⟨ta, pa, sa⟩ := ha.ex
  obtain ⟨tb, pb, sb⟩ := hb.ex
  exact ⟨_, fun X h => pe_cmpR (ho X h) (pa X h) (pb X h) hm, Sp2.op2 hr sa sb⟩
def toB : D → Option Bool
  | .bl b => some b
  | _ => none
theorem ft_cmp {op : CmpOp} {r : R2} {g : D → D → Option D} {a b : Expr} {fa fb : M D} {pos : Pos} (ho : ∀ X, In c X → OpR X (compareOp op) r) (hr : Op2 c.K r g) (ha : FE c a fa) (hb : FE c b fb) (hm : behindInMarks op b = false) : FT c (.Compare a [op] [b] pos) (bindM (bin2 g fa fb) fun d => liftO (toB d)) := by
  obtain ⟨ta, pa, sa⟩ := ha.ex
  obtain ⟨tb, pb, sb⟩ := hb.ex
  refine ⟨_, fun X h => pt_cmpR (ho X h) (pa X h) (pb X h) hm, fun F σ G H δ r s e Q p => ?_⟩
  refine (Sp2.op2 hr sa sb).step s e p fun G1 H1 δ1 x d s1 g1 rx e1 p1 => ?_
  obtain ⟨k, hk, rfl⟩ := liftO_eq e1
  cases d <;> cases hk
  cases rx
  exact ⟨_, rfl, p1 G1 H1 _ s1 (Same.refl _) rfl⟩
theorem In.units {c : SC} {X : Cx} (h : In c X) : X.A.units + 64 < cLine := h.room.units
section
variable {a b d : Expr} {fa fb fd : M D} {pos : Pos}
theorem fe_eq (ha : FE c a fa) (hb : FE c b fb) : FE c (.Compare a [.Eq] [b] pos) (bin2 eqD fa fb) := fe_cmp (fun X h => by have := op_eqD (X := X) h.units; rwa [h.K] at this) op2_eq ha hb (nomark _)
theorem fe_ne (ha : FE c a fa) (hb : FE c b fb) : FE c (.Compare a [.NotEq] [b] pos) (bin2 neD fa fb) := fe_cmp (fun X h => by have := op_neD (X := X) h.units; rwa [h.K] at this) op2_ne ha hb (nomark _)
theorem fe_lt (ha : FE c a fa) (hb : FE c b fb) : FE c (.Compare a [.Lt] [b] pos) (bin2 ltD fa fb) := fe_cmp (fun X h => op_lt) (op2_I0 fun _ _ _ => .bl _) ha hb (nomark _)
theorem fe_le (ha : FE c a fa) (hb : FE c b fb) : FE c (.Compare a [.LtE] [b] pos) (bin2 leD fa fb) := fe_cmp (fun X h => op_le) (op2_I0 fun _ _ _ => .bl _) ha hb (nomark _)
theorem fe_gt (ha : FE c a fa) (hb : FE c b fb) : FE c (.Compare a [.Gt] [b] pos) (bin2 gtD fa fb) := fe_cmp (fun X h => op_gt) (op2_I0 fun _ _ _ => .bl _) ha hb (nomark _)
theorem fe_ge (ha : FE c a fa) (hb : FE c b fb) : FE c (.Compare a [.GtE] [b] pos) (bin2 geD fa fb) := fe_cmp (fun X h => op_ge) (op2_I0 fun _ _ _ => .bl _) ha hb (nomark _)
theorem fe_is (ha : FE c a fa) (hb : FE c b fb) : FE c (.Compare a [.Is] [b] pos) (bin2 (isN false) fa fb) := fe_cmp (fun X h => op_isN) op2_isN ha hb (nomark _)
theorem fe_isnot (ha : FE c a fa) (hb : FE c b fb) : FE c (.Compare a [.IsNot] [b] pos) (bin2 (isN true) fa fb) := fe_cmp (fun X h => op_notN) op2_notN ha hb (nomark _)
theorem fe_in (ha : FE c a fa) (hb : FE c b fb) (hm : behindInMarks .In b = false := by rfl) : FE c (.Compare a [.In] [b] pos) (bin2 (inD false) fa fb) := fe_cmp (fun X h => by have := op_in_seq (X := X); rwa [h.K] at this) (op2_in false) ha hb hm
theorem fe_notin (ha : FE c a fa) (hb : FE c b fb) (hm : behindInMarks .NotIn b = false := by rfl) : FE c (.Compare a [.NotIn] [b] pos) (bin2 (inD true) fa fb) := fe_cmp (fun X h => by have := op_notIn_seq (X := X); rwa [h.K] at this) (op2_in true) ha hb hm
def tst (f : M D) : M Bool := bindM f fun d => liftO (toB d)
theorem ft_eq (ha : FE c a fa) (hb : FE c b fb) : FT c (.Compare a [.Eq] [b] pos) (tst (bin2 eqD fa fb)) := ft_cmp (fun X h => by have := op_eqD (X := X) h.units; rwa [h.K] at this) op2_eq ha hb (nomark _)
theorem ft_ne (ha : FE c a fa) (hb : FE c b fb) : FT c (.Compare a [.NotEq] [b] pos) (tst (bin2 neD fa fb)) := ft_cmp (fun X h => by have := op_neD (X := X) h.units; rwa [h.K] at this) op2_ne ha hb (nomark _)
theorem ft_lt (ha : FE c a fa) (hb : FE c b fb) : FT c (.Compare a [.Lt] [b] pos) (tst (bin2 ltD fa fb)) := ft_cmp (fun X h => op_lt) (op2_I0 fun _ _ _ => .bl _) ha hb (nomark _)
theorem ft_le (ha : FE c a fa) (hb : FE c b fb) : FT c (.Compare a [.LtE] [b] pos) (tst (bin2 leD fa fb)) := ft_cmp (fun X h => op_le) (op2_I0 fun _ _ _ => .bl _) ha hb (nomark _)
theorem ft_gt (ha : FE c a fa) (hb : FE c b fb) : FT c (.Compare a [.Gt] [b] pos) (tst (bin2 gtD fa fb)) := ft_cmp (fun X h => op_gt) (op2_I0 fun _ _ _ => .bl _) ha hb (nomark _)
theorem ft_ge (ha : FE c a fa) (hb : FE c b fb) : FT c (.Compare a [.GtE] [b] pos) (tst (bin2 geD fa fb)) := ft_cmp (fun X h => op_ge) (op2_I0 fun _ _ _ => .bl _) ha hb (nomark _)
theorem ft_is (ha : FE c a fa) (hb : FE c b fb) : FT c (.Compare a [.Is] [b] pos) (tst (bin2 (isN false) fa fb)) := ft_cmp (fun X h => op_isN) op2_isN ha hb (nomark _)
theorem ft_isnot (ha : FE c a fa) (hb : FE c b fb) : FT c (.Compare a [.IsNot] [b] pos) (tst (bin2 (isN true) fa fb)) := ft_cmp (fun X h => op_notN) op2_notN ha hb (nomark _)
theorem ft_in (ha : FE c a fa) (hb : FE c b fb) (hm : behindInMarks .In b = false := by rfl) : FT c (.Compare a [.In] [b] pos) (tst (bin2 (inD false) fa fb)) := ft_cmp (fun X h => by have := op_in_seq (X := X); rwa [h.K] at this) (op2_in false) ha hb hm
theorem ft_notin (ha : FE c a fa) (hb : FE c b fb) (hm : behindInMarks .NotIn b = false := by rfl) : FT c (.Compare a [.NotIn] [b] pos) (tst (bin2 (inD true) fa fb)) := ft_cmp (fun X h => by have := op_notIn_seq (X := X); rwa [h.K] at this) (op2_in true) ha hb hm
/-- a < b < c -/
def chainM (g g' : D → D → Option D) (fa fb fc : M D) : M D := bindM fa fun x => bindM fb fun y => bindM (liftO (g x y)) fun z => bindM (liftO (toB z)) fun k => if k then bindM fc fun w => liftO (g' y w) else pureM (.bl false)
theorem Sp2.chain {K : PySem.W.Frag} {T : List (Addr × PySem.Str)} {cl : Nat → Addr} {E : XK} {r r' : R2} {g g' : D → D → Option D} {ta tb tc : TE} {fa fb fc : M D} (hr : Op2 K r g) (hr' : Op2 K r' g') (ha : Sp2 (K, T) cl E (Rep K) ta fa) (hb : Sp2 (K, T) cl E (Rep K) tb fb) (hc : Sp2 (K, T) cl E (Rep K) tc fc) :
    Sp2 (K, T) cl E (Rep K) (tChain r r' ta tb tc) (chainM g g' fa fb fc) := by
  intro F σ G H δ r s e Q p
  refine ha.step s e p fun G1 H1 δ1 x a s1 g1 rx e1 p1 => ?_
  refine hb.step s1 e1 p1 fun G2 H2 δ2 y b s2 g2 ry e2 p2 => ?_
  cases h1 : g a b with
  | none => rw [h1] at e2; cases e2
  | some z =>
    rw [h1, liftO_some, bindM_pure] at e2
    refine hr.run _ F σ G2 H2 δ2 x y a b z s2 (rx.mono g2) ry h1 _ fun G3 H3 w s3 g3 rw3 => ?_
    cases z <;> try (cases e2)
    rename_i k
    cases rw3
    refine ⟨k, rfl, ?_⟩
    rw [show toB (.bl k) = some k from rfl, liftO_some, bindM_pure] at e2
    cases k with
    | false =>
      rw [if_neg Bool.false_ne_true]
      rw [if_neg Bool.false_ne_true] at e2
      cases e2
      exact p2 G3 H3 _ s3 g3 (.bl _)
    | true =>
      rw [if_pos rfl]
      rw [if_pos rfl] at e2
      refine hc.step s3 e2 (p2.weak g3) fun G4 H4 δ4 w' d s4 g4 rd e4 p4 => ?_
      obtain ⟨d', hd', rfl⟩ := liftO_eq e4
      exact hr'.run _ F σ G4 H4 δ4 y w' b d d' s4 (ry.mono (g3.trans g4)) rd hd' Q fun G' H' w s' g' rw' => p4 G' H' w s' g' rw'
theorem fe_chain {op op' : CmpOp} {r r' : R2} {g g' : D → D → Option D} (ho : ∀ X, In c X → OpR X (compareOp op) r) (ho' : ∀ X, In c X → OpR X (compareOp op') r') (hr : Op2 c.K r g) (hr' : Op2 c.K r' g') (ha : FE c a fa) (hb : FE c b fb) (hd : FE c d fd)
    (hm : lastMarks [op, op'] [b, d] = false) : FE c (.Compare a [op, op'] [b, d] pos) (chainM g g' fa fb fd) := by
  obtain ⟨ta, pa, sa⟩ := ha.ex
  obtain ⟨tb, pb, sb⟩ := hb.ex
  obtain ⟨td, pd, sd⟩ := hd.ex
  exact ⟨_, fun X h => pe_chain (ho X h) (ho' X h) (pa X h) (pb X h) (pd X h) hm, Sp2.chain hr hr' sa sb sd⟩
theorem ft_chain {op op' : CmpOp} {r r' : R2} {g g' : D → D → Option D} (ho : ∀ X, In c X → OpR X (compareOp op) r) (ho' : ∀ X, In c X → OpR X (compareOp op') r') (hr : Op2 c.K r g) (hr' : Op2 c.K r' g') (ha : FE c a fa) (hb : FE c b fb) (hd : FE c d fd)
    (hm : lastMarks [op, op'] [b, d] = false) : FT c (.Compare a [op, op'] [b, d] pos) (tst (chainM g g' fa fb fd)) := by
  obtain ⟨ta, pa, sa⟩ := ha.ex
  obtain ⟨tb, pb, sb⟩ := hb.ex
  obtain ⟨td, pd, sd⟩ := hd.ex
  refine ⟨_, fun X h => pt_chain (ho X h) (ho' X h) (pa X h) (pb X h) (pd X h) hm, fun F σ G H δ r s e Q p => ?_⟩
  refine (Sp2.chain hr hr' sa sb sd).step s e p fun G1 H1 δ1 x d s1 g1 rx e1 p1 => ?_
  obtain ⟨k, hk, rfl⟩ := liftO_eq e1
  cases d <;> cases hk
  cases rx
  exact ⟨_, rfl, p1 G1 H1 _ s1 (Same.refl _) rfl⟩
theorem fe_lele (ha : FE c a fa) (hb : FE c b fb) (hd : FE c d fd) (hm : lastMarks [.LtE, .LtE] [b, d] = false := by with_unfolding_all rfl) : FE c (.Compare a [.LtE, .LtE] [b, d] pos) (chainM leD leD fa fb fd) := fe_chain (fun _ _ => op_le) (fun _ _ => op_le) (op2_I0 fun _ _ _ => .bl _) (op2_I0 fun _ _ _ => .bl _) ha hb hd hm
theorem ft_lele (ha : FE c a fa) (hb : FE c b fb) (hd : FE c d fd) (hm : lastMarks [.LtE, .LtE] [b, d] = false := by with_unfolding_all rfl) : FT c (.Compare a [.LtE, .LtE] [b, d] pos) (tst (chainM leD leD fa fb fd)) := ft_chain (fun _ _ => op_le) (fun _ _ => op_le) (op2_I0 fun _ _ _ => .bl _) (op2_I0 fun _ _ _ => .bl _) ha hb hd hm
theorem fe_lelt (ha : FE c a fa) (hb : FE c b fb) (hd : FE c d fd) (hm : lastMarks [.LtE, .Lt] [b, d] = false := by with_unfolding_all rfl) : FE c (.Compare a [.LtE, .Lt] [b, d] pos) (chainM leD ltD fa fb fd) := fe_chain (fun _ _ => op_le) (fun _ _ => op_lt) (op2_I0 fun _ _ _ => .bl _) (op2_I0 fun _ _ _ => .bl _) ha hb hd hm
theorem ft_lelt (ha : FE c a fa) (hb : FE c b fb) (hd : FE c d fd) (hm : lastMarks [.LtE, .Lt] [b, d] = false := by with_unfolding_all rfl) : FT c (.Compare a [.LtE, .Lt] [b, d] pos) (tst (chainM leD ltD fa fb fd)) := ft_chain (fun _ _ => op_le) (fun _ _ => op_lt) (op2_I0 fun _ _ _ => .bl _) (op2_I0 fun _ _ _ => .bl _) ha hb hd hm
theorem ft_ltlt (ha : FE c a fa) (hb : FE c b fb) (hd : FE c d fd) (hm : lastMarks [.Lt, .Lt] [b, d] = false := by with_unfolding_all rfl) : FT c (.Compare a [.Lt, .Lt] [b, d] pos) (tst (chainM ltD ltD fa fb fd)) := ft_chain (fun _ _ => op_lt) (fun _ _ => op_lt) (op2_I0 fun _ _ _ => .bl _) (op2_I0 fun _ _ _ => .bl _) ha hb hd hm

/-! ### and, or, not; tests; x if t else y -/
theorem fe_one {op : BoolOp} (ha : FE c a fa) : FE c (.BoolOp op [a] pos) fa := by
  obtain ⟨ta, pa, sa⟩ := ha.ex
  exact ⟨ta, fun X h => pe_one (pa X h), sa⟩
def andM (fa fb : M D) : M D := bindM fa fun x => bindM (liftO (toB x)) fun k => if k then fb else pureM (.bl false)
def orM (fa fb : M D) : M D := bindM fa fun x => bindM (liftO (toB x)) fun k => if k then pureM (.bl true) else fb
theorem fe_and {rest : List Expr} (ha : FE c a fa) (hb : FE c (.BoolOp .And (b :: rest) pos) fb) : FE c (.BoolOp .And (a :: b :: rest) pos) (andM fa fb) := by
  obtain ⟨ta, pa, sa⟩ := ha.ex
  obtain ⟨tb, pb, sb⟩ := hb.ex
  refine ⟨_, fun X h => pe_and (pa X h) (pb X h), fun F σ G H δ r s e Q p => ?_⟩
  refine sa.step s e p fun G1 H1 δ1 x d s1 g1 rx e1 p1 => ?_
  cases d <;> try (cases e1)
  rename_i k
  cases rx
  refine ⟨k, rfl, ?_⟩
  rw [show toB (.bl k) = some k from rfl, liftO_some, bindM_pure] at e1
  cases k with
  | false => cases e1; rw [if_neg Bool.false_ne_true]; exact p1 G1 H1 _ s1 (Same.refl _) (.bl _)
  | true => rw [if_pos rfl]; exact sb F σ G1 H1 δ1 r s1 e1 Q p1
theorem fe_or {rest : List Expr} (ha : FE c a fa) (hb : FE c (.BoolOp .Or (b :: rest) pos) fb) : FE c (.BoolOp .Or (a :: b :: rest) pos) (orM fa fb) := by
  obtain ⟨ta, pa, sa⟩ := ha.ex
  obtain ⟨tb, pb, sb⟩ := hb.ex
  refine ⟨_, fun X h => pe_or (pa X h) (pb X h), fun F σ G H δ r s e Q p => ?_⟩
  refine sa.step s e p fun G1 H1 δ1 x d s1 g1 rx e1 p1 => ?_
  cases d <;> try (cases e1)
  rename_i k
  cases rx
  refine ⟨k, rfl, ?_⟩
  rw [show toB (.bl k) = some k from rfl, liftO_some, bindM_pure] at e1
  cases k with
  | true => cases e1; rw [if_pos rfl]; exact p1 G1 H1 _ s1 (Same.refl _) (.bl _)
  | false => rw [if_neg Bool.false_ne_true]; exact sb F σ G1 H1 δ1 r s1 e1 Q p1
def notM (fa : M D) : M D := bindM fa fun x => bindM (liftO (toB x)) fun k => pureM (.bl (!k))
theorem fe_not (ha : FE c a fa) : FE c (.UnaryOp .Not a pos) (notM fa) := by
  obtain ⟨ta, pa, sa⟩ := ha.ex
  refine ⟨_, fun X h => pe_not (pa X h), fun F σ G H δ r s e Q p => ?_⟩
  refine sa.step s e p fun G1 H1 δ1 x d s1 g1 rx e1 p1 => ?_
  cases d <;> try (cases e1)
  rename_i k
  cases rx
  exact ⟨k, rfl, p1 G1 H1 _ s1 (Same.refl _) (.bl _)⟩
theorem ft_val (ha : FE c a fa) (he : ∀ (env : Env) whole, isTrue a env whole = (do let v ← whole; standAt a.pos; holding [v] (truthy v)) := by intro _ _; rfl) : FT c a (tst fa) := by
  obtain ⟨ta, pa, sa⟩ := ha.ex
  refine ⟨_, fun X h => pt_val (pa X h) (he _), fun F σ G H δ r s e Q p => ?_⟩
  refine sa.step s e p fun G1 H1 δ1 x d s1 g1 rx e1 p1 => ?_
  cases d <;> try (cases e1)
  rename_i k
  cases rx
  exact ⟨k, rfl, p1 G1 H1 _ s1 (Same.refl _) rfl⟩
theorem ft_not {f : M Bool} (ha : FT c a f) : FT c (.UnaryOp .Not a pos) (bindM f fun k => pureM (!k)) := by
  obtain ⟨ta, pa, sa⟩ := ha.ex
  refine ⟨_, fun X h => pt_not (pa X h), fun F σ G H δ r s e Q p => ?_⟩
  refine sa.step s e p fun G1 H1 δ1 x d s1 g1 rx e1 p1 => ?_
  cases e1
  cases rx
  exact p1 G1 H1 _ s1 (Same.refl _) rfl
theorem fw_and1 {f : M Bool} (ha : FT c a f) : FW c (.BoolOp .And [a] pos) f := by
  obtain ⟨ta, pa, sa⟩ := ha.ex
  exact ⟨_, fun X h => pw_and1 (pa X h), sa⟩
theorem fw_or1 {f : M Bool} (ha : FT c a f) : FW c (.BoolOp .Or [a] pos) f := by
  obtain ⟨ta, pa, sa⟩ := ha.ex
  exact ⟨_, fun X h => pw_or1 (pa X h), sa⟩
def andT (f g : M Bool) : M Bool := bindM f fun k => if k then g else pureM false
def orT (f g : M Bool) : M Bool := bindM f fun k => if k then pureM true else g
theorem fw_and {rest : List Expr} {f g : M Bool} (ha : FT c a f) (hb : FW c (.BoolOp .And (b :: rest) pos) g) : FW c (.BoolOp .And (a :: b :: rest) pos) (andT f g) := by
  obtain ⟨ta, pa, sa⟩ := ha.ex
  obtain ⟨tb, pb, sb⟩ := hb.ex
  refine ⟨_, fun X h => pw_and (pa X h) (pb X h), fun F σ G H δ r s e Q p => ?_⟩
  refine sa.step s e p fun G1 H1 δ1 x k s1 g1 rx e1 p1 => ?_
  have ek : x = k := rx
  subst ek
  cases x with
  | false => cases e1; rw [if_neg Bool.false_ne_true]; exact p1 G1 H1 _ s1 (Same.refl _) rfl
  | true => rw [if_pos rfl]; exact sb F σ G1 H1 δ1 r s1 e1 Q p1
theorem fw_or {rest : List Expr} {f g : M Bool} (ha : FT c a f) (hb : FW c (.BoolOp .Or (b :: rest) pos) g) : FW c (.BoolOp .Or (a :: b :: rest) pos) (orT f g) := by
  obtain ⟨ta, pa, sa⟩ := ha.ex
  obtain ⟨tb, pb, sb⟩ := hb.ex
  refine ⟨_, fun X h => pw_or (pa X h) (pb X h), fun F σ G H δ r s e Q p => ?_⟩
  refine sa.step s e p fun G1 H1 δ1 x k s1 g1 rx e1 p1 => ?_
  have ek : x = k := rx
  subst ek
  cases x with
  | true => cases e1; rw [if_pos rfl]; exact p1 G1 H1 _ s1 (Same.refl _) rfl
  | false => rw [if_neg Bool.false_ne_true]; exact sb F σ G1 H1 δ1 r s1 e1 Q p1
theorem ft_w {f : M Bool} (ha : FW c a f) : FT c a f := by
  obtain ⟨ta, pa, sa⟩ := ha.ex
  exact ⟨_, fun X h => (pa X h).pt, sa⟩
def iteM {α : Type} (f : M Bool) (x y : M α) : M α := bindM f fun k => if k then x else y
theorem fe_ite {f : M Bool} (hd : FT c d f) (ha : FE c a fa) (hb : FE c b fb) : FE c (.IfExp d a b pos) (iteM f fa fb) := by
  obtain ⟨td, pd, sd⟩ := hd.ex
  obtain ⟨ta, pa, sa⟩ := ha.ex
  obtain ⟨tb, pb, sb⟩ := hb.ex
  refine ⟨_, fun X h => pe_ifExp (pd X h) (pa X h) (pb X h), fun F σ G H δ r s e Q p => ?_⟩
  refine sd.step s e p fun G1 H1 δ1 x k s1 g1 rx e1 p1 => ?_
  have ek : x = k := rx
  subst ek
  cases x with
  | true => rw [if_pos rfl]; exact sa F σ G1 H1 δ1 r s1 e1 Q p1
  | false => rw [if_neg Bool.false_ne_true]; exact sb F σ G1 H1 δ1 r s1 e1 Q p1
end

/-! ### argument lists, displays -/
section
variable {e : Expr} {es : List Expr} {f : M D} {g : M (List D)} {pos : Pos}
theorem fa_nil : FA c [] (pureM []) := ⟨_, fun _ _ => pa_nil, Sp2.pure fun _ => .nil⟩
def consM (f : M D) (g : M (List D)) : M (List D) := bindM f fun x => bindM g fun r => pureM (x :: r)
theorem fa_cons (he : FE c e f) (hr : FA c es g) (hs : ∀ env : Env, starEach (e :: es) env = (false, eval e env) :: starEach es env := by intro _; rfl) : FA c (e :: es) (consM f g) := by
  obtain ⟨ta, pa, sa⟩ := he.ex
  obtain ⟨tb, pb, sb⟩ := hr.ex
  refine ⟨_, fun X h => pa_cons (pa X h) (pb X h) (hs _), fun F σ G H δ r s e Q p => ?_⟩
  refine sa.step s e p fun G1 H1 δ1 x d s1 g1 rx e1 p1 => ?_
  refine sb.step s1 e1 p1 fun G2 H2 δ2 y ds s2 g2 ry e2 p2 => ?_
  cases e2
  exact p2 G2 H2 _ s2 (Same.refl _) (.cons (rx.mono g2) ry)
def tupM (f : M (List D)) : M D := bindM f fun ds => if ds.length ≤ 1000000 then pureM (.tup ds) else fun _ => none
def lstM (f : M (List D)) : M D := bindM f fun ds => if ds.length ≤ 1000000 then pureM (.lst ds) else fun _ => none
theorem fe_tup {x1} (h : FA c es g) : FE c (.Tuple es x1 pos) (tupM g) := by
  obtain ⟨ta, pa, sa⟩ := h.ex
  refine ⟨_, fun X h => pe_tup (pa X h), fun F σ G H δ r s e Q p => ?_⟩
  refine sa.step s e p fun G1 H1 δ1 xs ds s1 g1 rx e1 p1 => ?_
  split at e1
  · rename_i hl
    cases e1
    refine ⟨by rw [rx.length]; exact small6 hl, fun q hq => ?_⟩
    have gp := s1.sub.free hq
    exact p1 _ _ _ (s1.new hq) (same_upd gp) (.tup (.of upd_same) (rx.mono (same_upd gp)))
  · cases e1
theorem fe_lst (h : FA c es g) : FE c (.List es pos) (lstM g) := by
  obtain ⟨ta, pa, sa⟩ := h.ex
  refine ⟨_, fun X h => pe_lst (pa X h), fun F σ G H δ r s e Q p => ?_⟩
  refine sa.step s e p fun G1 H1 δ1 xs ds s1 g1 rx e1 p1 => ?_
  split at e1
  · rename_i hl
    cases e1
    refine ⟨by rw [rx.length]; exact small6 hl, fun q hq => ?_⟩
    have gp := s1.sub.free hq
    exact p1 _ _ _ (s1.new hq) (same_upd gp) (.lst upd_same (rx.mono (same_upd gp)))
  · cases e1
end
end
end FL

set_option Elab.async false
set_option linter.all false
set_option maxRecDepth 100000
set_option maxHeartbeats 2000000
/-! FL3: built-ins, subscripts, slices; calls of defs. -/
namespace FL
open PySem PySem.Spec PyProof.Rows L2
abbrev Gb (c : SC) (x : Str) : Prop := c.sc.names.lookup x = some .globalImplicit
section
variable {c : SC}
/-! ### subscripts -/
theorem RepL.atI {K : PySem.W.Frag} {G : Hp} {vs : List V} {ds : List D} {i : Int} {d : D} (r : RepL K G vs ds) (h : atI ds i = some d) : ∃ v, L2.atI vs i = some v ∧ Rep K G v d := by
  unfold L2.atI at h ⊢
  rw [r.length]
  cases e : ixN ds.length i with
  | none => rw [e] at h; cases h
  | some j =>
    rw [e] at h
    obtain ⟨v, h1, h2⟩ := r.get (show ds[j]? = some d from h)
    exact ⟨v, h1, h2⟩
def ixD : D → D → Option D
  | .lst ds, .int i => atI ds i
  | .tup ds, .int i => atI ds i
  | .str z, .int i => if z.length ≤ sizeLine then (atI z.cps.toList i).map fun k => .str ⟨#[k]⟩ else none
  | _, _ => none
theorem op2_ix {K : PySem.W.Frag} : Op2 K (rIx K) ixD := by
  refine ⟨fun T F σ G H δ v u a b d s rv ru e Q q => ?_⟩
  unfold ixD at e
  split at e
  · rename_i ds i
    cases ru
    cases rv with
    | lst h1 h2 =>
      obtain ⟨w, e1, e2⟩ := h2.atI e
      exact .inl ⟨_, _, i, w, rfl, rfl, .of (s.sub _ _ h1), e1, q G H _ s (Same.refl _) e2⟩
  · rename_i ds i
    cases ru
    cases rv with
    | tup h1 h2 =>
      obtain ⟨w, e1, e2⟩ := h2.atI e
      exact .inr (.inl ⟨_, _, i, w, rfl, rfl, seqT s.sub h1, e1, q G H _ s (Same.refl _) e2⟩)
  · rename_i z i
    cases ru
    cases rv
    split at e
    · rename_i hz
      cases h : atI z.cps.toList i with
      | none => rw [h] at e; cases e
      | some k =>
        rw [h] at e
        cases e
        exact .inr (.inr ⟨z, i, k, rfl, rfl, hz, h, q G H _ s (Same.refl _) (.str _)⟩)
    · cases e
  · cases e
theorem fe_ix {a b : Expr} {fa fb : M D} {pos : Pos} (ha : FE c a fa) (hb : FE c b fb) (hs : PlainIx b := by intro _ _; rfl) : FE c (.Subscript a b pos) (bin2 ixD fa fb) := by
  obtain ⟨ta, pa, sa⟩ := ha.ex
  obtain ⟨tb, pb, sb⟩ := hb.ex
  exact ⟨_, fun X h => by have := pe_ix (X := X) (pos := pos) ix_seq (pa X h) (pb X h) hs; rwa [h.K] at this, Sp2.op2 op2_ix sa sb⟩
/-! ### slices -/
structure FO (c : SC) (e : Option Expr) (f : M (Option Int)) : Prop where
  ex : ∃ t, (∀ X, In c X → PO X e t) ∧ Sp2 c.κ c.cl c.E (fun _ (o o' : Option Int) => o = o') t f
theorem fo_none : FO c none (pureM none) := ⟨_, fun _ _ => po_none, Sp2.pure fun _ => rfl⟩
def intM (f : M D) : M (Option Int) := bindM f fun d => match d with | .int i => pureM (some i) | _ => fun _ => none
theorem fo_some {e : Expr} {f : M D} (h : FE c e f) : FO c (some e) (intM f) := by
  obtain ⟨ta, pa, sa⟩ := h.ex
  refine ⟨_, fun X h => po_some (pa X h), fun F σ G H δ r s e Q p => ?_⟩
  refine sa.step s e p fun G1 H1 δ1 x d s1 g1 rx e1 p1 => ?_
  cases d <;> try (cases e1)
  rename_i i
  cases rx
  exact ⟨i, rfl, p1 G1 H1 _ s1 (Same.refl _) rfl⟩
def cutL {α : Type} (xs : List α) (lo hi : Option Int) : List α := (xs.drop (HT.sIx xs.length 0 lo)).take (HT.sIx xs.length xs.length hi - HT.sIx xs.length 0 lo)
theorem RepL.cut {K : PySem.W.Frag} {G : Hp} {vs : List V} {ds : List D} (r : RepL K G vs ds) (lo hi : Option Int) : RepL K G (cutV vs lo hi) (cutL ds lo hi) := by
  unfold cutV cutL
  rw [r.length]
  exact (r.drop _).take _
def slD (d : D) (lo hi : Option Int) : Option D := match d with
  | .lst ds => some (.lst (cutL ds lo hi))
  | .tup ds => if HT.sIx ds.length 0 lo = 0 ∧ HT.sIx ds.length ds.length hi = ds.length then none else some (.tup (cutL ds lo hi))
  | _ => none
theorem fe_slice {e : Expr} {lo hi : Option Expr} {f : M D} {fl fh : M (Option Int)} {pos p2 : Pos} (he : FE c e f) (hl : FO c lo fl) (hh : FO c hi fh) :
    FE c (.Subscript e (.Slice lo hi none p2) pos) (bindM f fun d => bindM fl fun l => bindM fh fun h => liftO (slD d l h)) := by
  obtain ⟨ta, pa, sa⟩ := he.ex
  obtain ⟨tl, pl, sl⟩ := hl.ex
  obtain ⟨th, ph, sh⟩ := hh.ex
  refine ⟨_, fun X h => by have := pe_slice (X := X) (pos := pos) (p2 := p2) (sl_list.or sl_tup) (pa X h) (pl X h) (ph X h); rwa [h.K] at this, fun F σ G H δ r s e Q p => ?_⟩
  refine sa.step s e p fun G1 H1 δ1 x d s1 g1 rx e1 p1 => ?_
  refine sl.step s1 e1 p1 fun G2 H2 δ2 y l s2 g2 ry e2 p2 => ?_
  refine sh.step s2 e2 p2 fun G3 H3 δ3 z h s3 g3 rz e3 p3 => ?_
  obtain ⟨d', hd', rfl⟩ := liftO_eq e3
  cases ry
  cases rz
  have rx3 := rx.mono (g2.trans g3)
  unfold slD at hd'
  split at hd'
  · cases hd'
    cases rx3 with
    | lst h1 h2 =>
      refine .inl ⟨_, _, rfl, .of (s3.sub _ _ h1), fun q hq => ?_⟩
      have gp := s3.sub.free hq
      exact p3 _ _ _ (s3.new hq) (same_upd gp) (.lst upd_same ((h2.cut _ _).mono (same_upd gp)))
  · split at hd'
    · cases hd'
    · rename_i hn
      cases hd'
      cases rx3 with
      | tup h1 h2 =>
        refine .inr ⟨_, _, rfl, seqT s3.sub h1, by rw [h2.length]; exact hn, fun q hq => ?_⟩
        have gp := s3.sub.free hq
        exact p3 _ _ _ (s3.new hq) (same_upd gp) (.tup (.of upd_same) ((h2.cut _ _).mono (same_upd gp)))
  · cases hd'

/-! ### built-ins -/
structure Cb (K : PySem.W.Frag) (r : List V → Hp → VK → Prop) (g : List D → Option D) : Prop where
  run : ∀ T F σ G H δ vs ds d, S (K, T) F σ G H δ → RepL K G vs ds → g ds = some d → ∀ Q : VK, (∀ G' H' w, S (K, T) F σ G' H' δ → Same G G' → Rep K G' w d → Q w H') → r vs H Q
theorem Cb.or {K : PySem.W.Frag} {r r' : List V → Hp → VK → Prop} {g g' : List D → Option D} (h : Cb K r g) (h' : Cb K r' g') : Cb K (fun xs H Q => r xs H Q ∨ r' xs H Q) (fun ds => (g ds).or (g' ds)) := by
  refine ⟨fun T F σ G H δ vs ds d s rv e Q q => ?_⟩
  cases h1 : g ds with
  | some d' =>
    rw [h1, Option.some_or] at e
    cases e
    exact .inl (h.run _ F σ G H δ vs ds _ s rv h1 Q q)
  | none =>
    rw [h1, Option.none_or] at e
    exact .inr (h'.run _ F σ G H δ vs ds _ s rv e Q q)
def callB (g : List D → Option D) (fa : M (List D)) : M D := bindM fa fun ds => liftO (g ds)
theorem Sp2.cb {K : PySem.W.Frag} {T : List (Addr × PySem.Str)} {cl : Nat → Addr} {E : XK} {r : List V → Hp → VK → Prop} {g : List D → Option D} {t : TA} {f : M (List D)} (hr : Cb K r g) (ha : Sp2 (K, T) cl E (RepL K) t f) : Sp2 (K, T) cl E (Rep K) (tCB r t) (callB g f) := by
  intro F σ G H δ r s e Q p
  refine ha.step s e p fun G1 H1 δ1 x ds s1 g1 rx e1 p1 => ?_
  obtain ⟨d, hd, rfl⟩ := liftO_eq e1
  exact hr.run _ F σ G1 H1 δ1 x ds d s1 rx hd Q fun G' H' w s' g' rw' => p1 G' H' w s' g' rw'
theorem fe_callB {id : String} {r : List V → Hp → VK → Prop} {g : List D → Option D} {x : Str} {p pos : Pos} {e : Expr} {es : List Expr} {f : M (List D)} (hm : c.mg x = none) (hc : ∀ X, In c X → CallR X (.builtin id) r) (hr : Cb c.K r g) (ha : FA c (e :: es) f)
    (hv : bootBuiltins x = some (.builtin id)) (hg : Gb c x := by rfl)
    (hn : x ≠ "__name__" := by decide) (hdb : (x == ("__debug__" : Str)) = false := by decide)
    (he : ∀ env : Env, starEach (e :: es) env = (false, eval e env) :: starEach es env := by intro _; rfl) (hpl : ∀ env : Env, (backTo pos (starEach es env)).any (·.1) = false := by intro _; rfl) :
    FE c (.Call (.Name x p) (e :: es) [] pos) (callB g f) := by
  obtain ⟨t, pa, sa⟩ := ha.ex
  exact ⟨_, fun X h => pe_callB (hc X h) (show X.env.scope.names.lookup x = _ by rw [h.sc]; exact hg) (by rw [h.mg]; exact hm) hv (pa X h) hn hdb (he _) (hpl _), Sp2.cb hr sa⟩
theorem fe_callTy {T : String} {r : List V → Hp → VK → Prop} {g : List D → Option D} {x : Str} {p pos : Pos} {e : Expr} {es : List Expr} {f : M (List D)} (hm : c.mg x = none) (hc : ∀ X, In c X → CallR X (.type T) r) (hr : Cb c.K r g) (ha : FA c (e :: es) f)
    (hv : bootBuiltins x = some (.type T)) (hg : Gb c x := by rfl)
    (hn : x ≠ "__name__" := by decide) (hdb : (x == ("__debug__" : Str)) = false := by decide)
    (he : ∀ env : Env, starEach (e :: es) env = (false, eval e env) :: starEach es env := by intro _; rfl) (hpl : ∀ env : Env, (backTo pos (starEach es env)).any (·.1) = false := by intro _; rfl) :
    FE c (.Call (.Name x p) (e :: es) [] pos) (callB g f) := by
  obtain ⟨t, pa, sa⟩ := ha.ex
  exact ⟨_, fun X h => pe_callTy (hc X h) (show X.env.scope.names.lookup x = _ by rw [h.sc]; exact hg) (by rw [h.mg]; exact hm) hv (pa X h) hn hdb (he _) (hpl _), Sp2.cb hr sa⟩
def absI (i : Int) : Int := if i < 0 then -i else i
def absD : List D → Option D
  | [.int i] => some (.int (absI i))
  | _ => none
theorem cb_abs {K : PySem.W.Frag} : Cb K (fun xs H Q => ∃ i, xs = [V.int i] ∧ Q (.int (if i < 0 then -i else i)) H) absD := by
  refine ⟨fun T F σ G H δ vs ds d s rv e Q q => ?_⟩
  unfold absD at e
  split at e
  · rename_i i
    cases e
    cases rv with
    | cons h t =>
      cases t
      cases h
      exact ⟨i, rfl, q G H _ s (Same.refl _) (.int _)⟩
  · cases e
theorem fe_abs {p pos : Pos} {e : Expr} {f : M (List D)} (hm : c.mg "abs" = none) (ha : FA c [e] f) (hg : Gb c "abs" := by rfl) (he : ∀ env : Env, starEach [e] env = (false, eval e env) :: starEach [] env := by intro _; rfl) :
    FE c (.Call (.Name "abs" p) [e] [] pos) (callB absD f) :=
  fe_callB hm (fun _ _ => call_abs) cb_abs ha (by first | exact PySem.boot_abs | decide +kernel) hg (he := he)
/-- max and min of a list of ints; of two ints -/
def intsOf : List D → Option (List Int)
  | [] => some []
  | .int i :: r => (intsOf r).map (i :: ·)
  | _ => none
theorem intsOf_some : ∀ {ds : List D} {ns : List Int}, intsOf ds = some ns → ds = ns.map D.int
  | [], ns, h => by cases h; rfl
  | .int i :: r, ns, h => by
    rw [intsOf] at h
    cases q : intsOf r with
    | none => rw [q] at h; cases h
    | some ms => rw [q] at h; cases h; rw [intsOf_some q]; rfl
  | .non :: _, _, h => by cases h
  | .bl _ :: _, _, h => by cases h
  | .str _ :: _, _, h => by cases h
  | .lst _ :: _, _, h => by cases h
  | .tup _ :: _, _, h => by cases h
  | .ins _ _ :: _, _, h => by cases h
  | .fn _ :: _, _, h => by cases h
theorem intsOf_map : ∀ ns : List Int, intsOf (ns.map D.int) = some ns
  | [] => rfl
  | n :: r => by rw [List.map_cons, intsOf, intsOf_map r]; rfl
def maxL : List Int → Int
  | [] => 0
  | [x] => x
  | x :: y :: r => let m := maxL (y :: r); if x < m then m else x
def minL : List Int → Int
  | [] => 0
  | [x] => x
  | x :: y :: r => let m := minL (y :: r); if m < x then m else x
theorem maxL_mem : ∀ {l : List Int}, 0 < l.length → maxL l ∈ l
  | [], h => by simp at h
  | [x], _ => by simp [maxL]
  | x :: y :: r, _ => by
    have ih := maxL_mem (l := y :: r) (by simp)
    simp only [maxL]
    split
    · exact List.mem_cons_of_mem _ ih
    · exact List.mem_cons_self
theorem maxL_le : ∀ {l : List Int} {z : Int}, z ∈ l → z ≤ maxL l
  | [], _, h => by simp at h
  | [x], z, h => by simp [maxL] at h ⊢; omega
  | x :: y :: r, z, h => by
    simp only [maxL]
    rcases List.mem_cons.mp h with rfl | h
    · split <;> omega
    · have ih := maxL_le (l := y :: r) h
      split <;> omega
theorem minL_mem : ∀ {l : List Int}, 0 < l.length → minL l ∈ l
  | [], h => by simp at h
  | [x], _ => by simp [minL]
  | x :: y :: r, _ => by
    have ih := minL_mem (l := y :: r) (by simp)
    simp only [minL]
    split
    · exact List.mem_cons_of_mem _ ih
    · exact List.mem_cons_self
theorem minL_le : ∀ {l : List Int} {z : Int}, z ∈ l → minL l ≤ z
  | [], _, h => by simp at h
  | [x], z, h => by simp [minL] at h ⊢; omega
  | x :: y :: r, z, h => by
    simp only [minL]
    rcases List.mem_cons.mp h with rfl | h
    · split <;> omega
    · have ih := minL_le (l := y :: r) h
      split <;> omega
def maxD : List D → Option D
  | [.lst ds] => match intsOf ds with
    | some (n :: r) => some (.int (maxL (n :: r)))
    | _ => none
  | _ => none
def minD : List D → Option D
  | [.lst ds] => match intsOf ds with
    | some (n :: r) => some (.int (minL (n :: r)))
    | _ => none
  | _ => none
theorem cb_max {K : PySem.W.Frag} : Cb K (rMax K) maxD := by
  refine ⟨fun T F σ G H δ vs ds d s rv e Q q => ?_⟩
  unfold maxD at e
  split at e
  · split at e
    · rename_i n r hi
      cases e
      cases rv with
      | cons h t =>
        cases t
        cases h with
        | lst h1 h2 =>
          rw [intsOf_some hi] at h2
          have ev := h2.ints'
          subst ev
          refine ⟨_, n :: r, rfl, .of (s.sub _ _ h1), by simp, fun m hm hle => ?_⟩
          have : m = maxL (n :: r) := Int.le_antisymm (maxL_le hm) (hle _ (maxL_mem (by simp)))
          rw [this]
          exact q G H _ s (Same.refl _) (.int _)
    · cases e
  · cases e
theorem cb_min {K : PySem.W.Frag} : Cb K (rMin K) minD := by
  refine ⟨fun T F σ G H δ vs ds d s rv e Q q => ?_⟩
  unfold minD at e
  split at e
  · split at e
    · rename_i n r hi
      cases e
      cases rv with
      | cons h t =>
        cases t
        cases h with
        | lst h1 h2 =>
          rw [intsOf_some hi] at h2
          have ev := h2.ints'
          subst ev
          refine ⟨_, n :: r, rfl, .of (s.sub _ _ h1), by simp, fun m hm hle => ?_⟩
          have : m = minL (n :: r) := Int.le_antisymm (hle _ (minL_mem (by simp))) (minL_le hm)
          rw [this]
          exact q G H _ s (Same.refl _) (.int _)
    · cases e
  · cases e
theorem fe_max {p pos : Pos} {e : Expr} {f : M (List D)} (hm : c.mg "max" = none) (ha : FA c [e] f) (hg : Gb c "max" := by rfl) (he : ∀ env : Env, starEach [e] env = (false, eval e env) :: starEach [] env := by intro _; rfl) :
    FE c (.Call (.Name "max" p) [e] [] pos) (callB maxD f) :=
  fe_callB hm (fun X h => by have := cr_max (X := X) h.calm; rwa [h.K] at this) cb_max ha (by first | exact PyProof.Rows.boot_max | decide +kernel) hg (he := he)
theorem fe_min {p pos : Pos} {e : Expr} {f : M (List D)} (hm : c.mg "min" = none) (ha : FA c [e] f) (hg : Gb c "min" := by rfl) (he : ∀ env : Env, starEach [e] env = (false, eval e env) :: starEach [] env := by intro _; rfl) :
    FE c (.Call (.Name "min" p) [e] [] pos) (callB minD f) :=
  fe_callB hm (fun X h => by have := cr_min (X := X) h.calm; rwa [h.K] at this) cb_min ha (by first | exact PyProof.Rows.boot_min | decide +kernel) hg (he := he)
def sumD : List D → Option D
  | [.lst ds] => (intsOf ds).map fun ns => .int ns.sum
  | _ => none
theorem cb_sum {K : PySem.W.Frag} : Cb K (rSum K) sumD := by
  refine ⟨fun T F σ G H δ vs ds d s rv e Q q => ?_⟩
  unfold sumD at e
  split at e
  · rename_i ds
    cases hi : intsOf ds with
    | none => rw [hi] at e; cases e
    | some ns =>
      rw [hi] at e
      cases e
      cases rv with
      | cons h t =>
        cases t
        cases h with
        | lst h1 h2 =>
          rw [intsOf_some hi] at h2
          have ev := h2.ints'
          subst ev
          exact ⟨_, ns, rfl, .of (s.sub _ _ h1), q G H _ s (Same.refl _) (.int _)⟩
  · cases e
theorem fe_sum {p pos : Pos} {e : Expr} {f : M (List D)} (hm : c.mg "sum" = none) (ha : FA c [e] f) (hg : Gb c "sum" := by rfl) (he : ∀ env : Env, starEach [e] env = (false, eval e env) :: starEach [] env := by intro _; rfl) :
    FE c (.Call (.Name "sum" p) [e] [] pos) (callB sumD f) :=
  fe_callB hm (fun X h => by have := cr_sum (X := X) h.calm; rwa [h.K] at this) cb_sum ha (by decide +kernel) hg (he := he)
def lenD : List D → Option D
  | [.lst ds] => some (.int ds.length)
  | [.tup ds] => some (.int ds.length)
  | [.str z] => if z.length ≤ sizeLine then some (.int z.length) else none
  | _ => none
theorem cb_len {K : PySem.W.Frag} : Cb K (fun xs H Q => (∃ p ys, xs = [V.ref p] ∧ (SqL K H p ys ∨ SqT K H p ys) ∧ Q (.int ys.length) H) ∨ (∃ z, xs = [V.str z] ∧ z.length ≤ sizeLine ∧ Q (.int z.length) H)) lenD := by
  refine ⟨fun T F σ G H δ vs ds d s rv e Q q => ?_⟩
  unfold lenD at e
  split at e
  · cases e
    cases rv with
    | cons h t =>
      cases t
      cases h with
      | lst h1 h2 => exact .inl ⟨_, _, rfl, .inl (.of (s.sub _ _ h1)), by rw [h2.length]; exact q G H _ s (Same.refl _) (.int _)⟩
  · cases e
    cases rv with
    | cons h t =>
      cases t
      cases h with
      | tup h1 h2 => exact .inl ⟨_, _, rfl, .inr (seqT s.sub h1), by rw [h2.length]; exact q G H _ s (Same.refl _) (.int _)⟩
  · split at e
    · rename_i z hz
      cases e
      cases rv with
      | cons h t =>
        cases t
        cases h
        exact .inr ⟨z, rfl, hz, q G H _ s (Same.refl _) (.int _)⟩
    · cases e
  · cases e
theorem fe_len {p pos : Pos} {e : Expr} {f : M (List D)} (hm : c.mg "len" = none) (ha : FA c [e] f) (hg : Gb c "len" := by rfl) (he : ∀ env : Env, starEach [e] env = (false, eval e env) :: starEach [] env := by intro _; rfl) :
    FE c (.Call (.Name "len" p) [e] [] pos) (callB lenD f) :=
  fe_callB hm (fun X h => by have := (call_len_seq (X := X)).or call_len_str; rwa [h.K] at this) cb_len ha PySem.boot_len hg (he := he)
def listD : List D → Option D
  | [.lst ds] => some (.lst ds)
  | [.tup ds] => some (.lst ds)
  | _ => none
theorem cb_list {K : PySem.W.Frag} : Cb K (fun xs H Q => ∃ p ys, xs = [V.ref p] ∧ (SqL K H p ys ∨ SqT K H p ys) ∧ ∀ l, H l = none → Q (.ref l) (upd H l (.lst ys))) listD := by
  refine ⟨fun T F σ G H δ vs ds d s rv e Q q => ?_⟩
  unfold listD at e
  split at e
  · cases e
    cases rv with
    | cons h t =>
      cases t
      cases h with
      | lst h1 h2 => exact ⟨_, _, rfl, .inl (.of (s.sub _ _ h1)), fun l hl => q _ _ _ (s.new hl) (same_upd (s.sub.free hl)) (.lst upd_same (h2.mono (same_upd (s.sub.free hl))))⟩
  · cases e
    cases rv with
    | cons h t =>
      cases t
      cases h with
      | tup h1 h2 => exact ⟨_, _, rfl, .inr (seqT s.sub h1), fun l hl => q _ _ _ (s.new hl) (same_upd (s.sub.free hl)) (.lst upd_same (h2.mono (same_upd (s.sub.free hl))))⟩
  · cases e
theorem fe_list {p pos : Pos} {e : Expr} {f : M (List D)} (hm : c.mg "list" = none) (ha : FA c [e] f) (hg : Gb c "list" := by rfl) (he : ∀ env : Env, starEach [e] env = (false, eval e env) :: starEach [] env := by intro _; rfl) :
    FE c (.Call (.Name "list" p) [e] [] pos) (callB listD f) :=
  fe_callTy hm (fun X h => by have := call_list_of (X := X); rwa [h.K] at this) cb_list ha (by decide +kernel) hg (he := he)
def tupleD : List D → Option D
  | [.lst ds] => some (.tup ds)
  | [.tup ds] => some (.tup ds)
  | _ => none
theorem cb_tuple {K : PySem.W.Frag} : Cb K (fun xs H Q => ∃ p ys, xs = [V.ref p] ∧ ((SqL K H p ys ∧ ∀ l, H l = none → Q (.ref l) (upd H l (.tup ys))) ∨ (SqT K H p ys ∧ Q (.ref p) H))) tupleD := by
  refine ⟨fun T F σ G H δ vs ds d s rv e Q q => ?_⟩
  unfold tupleD at e
  split at e
  · cases e
    cases rv with
    | cons h t =>
      cases t
      cases h with
      | lst h1 h2 => exact ⟨_, _, rfl, .inl ⟨.of (s.sub _ _ h1), fun l hl => q _ _ _ (s.new hl) (same_upd (s.sub.free hl)) (.tup (.of upd_same) (h2.mono (same_upd (s.sub.free hl))))⟩⟩
  · cases e
    cases rv with
    | cons h t =>
      cases t
      cases h with
      | tup h1 h2 => exact ⟨_, _, rfl, .inr ⟨seqT s.sub h1, q G H _ s (Same.refl _) (.tup h1 h2)⟩⟩
  · cases e
theorem fe_tuple {p pos : Pos} {e : Expr} {f : M (List D)} (hm : c.mg "tuple" = none) (ha : FA c [e] f) (hg : Gb c "tuple" := by rfl) (he : ∀ env : Env, starEach [e] env = (false, eval e env) :: starEach [] env := by intro _; rfl) :
    FE c (.Call (.Name "tuple" p) [e] [] pos) (callB tupleD f) :=
  fe_callTy hm (fun X h => by have := call_tuple_of (X := X); rwa [h.K] at this) cb_tuple ha (by decide +kernel) hg (he := he)
def intD : List D → Option D
  | [.int i] => some (.int i)
  | [.bl b] => some (.int (if b then 1 else 0))
  | _ => none
theorem cb_int {K : PySem.W.Frag} : Cb K (fun xs H Q => (∃ i, xs = [V.int i] ∧ Q (.int i) H) ∨ ∃ k, xs = [V.bl k] ∧ Q (.int (if k then 1 else 0)) H) intD := by
  refine ⟨fun T F σ G H δ vs ds d s rv e Q q => ?_⟩
  unfold intD at e
  split at e
  · cases e
    cases rv with
    | cons h t =>
      cases t
      cases h
      exact .inl ⟨_, rfl, q G H _ s (Same.refl _) (.int _)⟩
  · cases e
    cases rv with
    | cons h t =>
      cases t
      cases h
      exact .inr ⟨_, rfl, q G H _ s (Same.refl _) (.int _)⟩
  · cases e
theorem fe_int1 {p pos : Pos} {e : Expr} {f : M (List D)} (hm : c.mg "int" = none) (ha : FA c [e] f) (hg : Gb c "int" := by rfl) (he : ∀ env : Env, starEach [e] env = (false, eval e env) :: starEach [] env := by intro _; rfl) :
    FE c (.Call (.Name "int" p) [e] [] pos) (callB intD f) :=
  fe_callTy hm (fun X h => call_int1) cb_int ha PyProof.Rows.boot_int hg (he := he)

/-! ### defs of one's own -/
/-- what a def gives for data: none: not told; ret: hands back; ex: raises the c-th class -/
inductive Res where
  | ret (d : D) | ex (c : Nat)
abbrev DF := List D → Option Res
/-- the promise of a def that changes nothing that stood -/
def spD (K : PySem.W.Frag) (cl : Nat → Addr) (f : DF) : Sp := fun vs H Q E => ∃ (F G : Hp) (ds : List D) (r : Res), Same G H ∧ Same F H ∧ (∀ b o, F b = some o → G b = none) ∧ (∀ b ps, G b ≠ some (.tbl ps)) ∧ RepL K G vs ds ∧ f ds = some r ∧
  match r with
  | .ret d => ∀ G' H' v, Same G G' → Same G' H' → Same F H' → (∀ b o, F b = some o → G' b = none) → (∀ b ps, G' b ≠ some (.tbl ps)) → Rep K G' v d → Q v H'
  | .ex k => ∀ G' H', Same G G' → Same G' H' → Same F H' → E (.ref (cl k)) none H'
structure FnD (P : Program) (w : World) (K : PySem.W.Frag) (mg : Str → Option Value) (base : Heap) (cl : Nat → Addr) (k : Nat) (x : Str) (f : DF) : Prop where
  ex : ∃ (a : Addr) (fd : FuncData) (ps : List Str), mg x = some (.ref a) ∧ PySem.W.keepIn K (.ref a) = true ∧ Binds K fd ps [] ∧ FnOk P w K mg base (L2.CX P w) k a fd ps (spD K cl f)
theorem FnD.mono {P : Program} {w : World} {K : PySem.W.Frag} {mg : Str → Option Value} {base : Heap} {cl : Nat → Addr} {j k : Nat} {x : Str} {f : DF} (h : FnD P w K mg base cl j x f) (hj : j ≤ k) : FnD P w K mg base cl k x f := by
  obtain ⟨a, fd, ps, h1, h2, h3, h4⟩ := h.ex
  exact ⟨a, fd, ps, h1, h2, h3, h4.mono hj⟩
/-- callers' frozen heap of a state: all of H that is not G and not one of its own lists -/
def resM (r : Option Res) : M D := fun δ => match r with
  | none => none
  | some (.ret d) => some (.ok d δ)
  | some (.ex k) => some (.ex k)
def callM (f : DF) (fa : M (List D)) : M D := bindM fa fun ds => resM (f ds)
/-- all that H holds beside G -/
def besides (G H : Hp) : Hp := fun b => match G b with
  | some _ => none
  | none => H b
theorem S.after {K : PySem.W.Frag} {T : List (Addr × PySem.Str)} {F G H G' H' : Hp} {σ : L2.St} {δ : De} (s : S (K, T) F σ G H δ) (g : Same G G') (h : Same G' H') (f : Same (besides G H) H') (d : ∀ b o, besides G H b = some o → G' b = none) (n : ∀ b ps, G' b ≠ some (.tbl ps)) : S (K, T) F σ G' H' δ := by
  have bs : ∀ b o, H b = some o → G b = none → besides G H b = some o := fun b o e n => by unfold besides; rw [n]; exact e
  refine ⟨h, fun b o e => f _ _ (bs _ _ (s.frm _ _ e) (s.dis _ _ e)), fun b o e => d _ _ (bs _ _ (s.frm _ _ e) (s.dis _ _ e)), s.len, fun i d' e => ?_, fun i xs e => ?_, s.inj, ?_, fun x hx => ?_, n, s.ntf⟩
  · obtain ⟨v, h1, h2⟩ := s.val i d' e
    exact ⟨v, h1, h2.mono g⟩
  · obtain ⟨p, vs, h1, h2, h3, h4, h5⟩ := s.own i xs e
    exact ⟨p, vs, h1, f _ _ (bs _ _ h2 h4), h3.mono g, d _ _ (bs _ _ h2 h4), h5⟩
  · intro x hx
    have all : ∀ b o, H b = some o → H' b = some o := fun b o e => by
      cases hg : G b with
      | none => exact f _ _ (bs _ _ e hg)
      | some o' =>
        have := s.sub _ _ hg
        rw [e] at this
        cases this
        exact h _ _ (g _ _ hg)
    exact (s.tab x hx).ext all
  · obtain ⟨ps, hp⟩ := s.tab_at hx
    exact ⟨(s.tnf x hx).1, d _ _ (bs _ _ hp (s.tnf x hx).2)⟩
theorem fe_call {k : Nat} {x : Str} {f : DF} {p pos : Pos} {e : Expr} {es : List Expr} {fa : M (List D)} (F : FnD c.P c.w c.K c.mg c.base c.cl k x f) (ha : FA c (e :: es) fa) (hk : Nat.ble k c.k = true := by rfl)
    (hg : Gb c x := by rfl)
    (hdb : (x == ("__debug__" : Str)) = false := by decide) (he : ∀ env : Env, starEach (e :: es) env = (false, eval e env) :: starEach es env := by intro _; rfl) (hpl : ∀ env : Env, (backTo pos (starEach es env)).any (·.1) = false := by intro _; rfl) :
    FE c (.Call (.Name x p) (e :: es) [] pos) (callM f fa) := by
  obtain ⟨t, pa, sa⟩ := ha.ex
  obtain ⟨a, fd, ps, h1, h2, h3, h4⟩ := F.ex
  refine ⟨tCallS (spD c.K c.cl f) (WE fun cls d _ H => c.E cls d H) t, fun X h => ?_, ?_⟩
  · have h4' : FnOk X.prog X.w X.K X.mg X.base (L2.CX X.prog X.w) k a fd ps (spD c.K c.cl f) := by rw [h.P, h.w, h.K, h.mg, h.base]; exact h4
    exact pe_callS h4' (h.room.mono (Nat.le_of_ble_eq_true hk)) (show X.env.scope.names.lookup x = _ by rw [h.sc]; exact hg) (by rw [h.mg]; exact h1) (by rw [h.K]; exact h2) (by rw [h.K]; exact h3) (fun σ => passAt h.tk σ) (pa X h) hdb (he _) (hpl _)
  · intro F σ G H δ r s e Q p
    refine sa.step s e p fun G1 H1 δ1 vs ds s1 g1 rx e1 p1 => ?_
    unfold resM at e1
    cases h : f ds with
    | none => rw [h] at e1; cases e1
    | some rr =>
      rw [h] at e1
      have bs : ∀ b o, besides G1 H1 b = some o → G1 b = none ∧ H1 b = some o := fun b o e => by
        unfold besides at e
        split at e
        · cases e
        · rename_i q; exact ⟨q, e⟩
      refine ⟨besides G1 H1, G1, ds, rr, s1.sub, fun b o e => (bs b o e).2, fun b o e => (bs b o e).1, s1.ntg, rx, h, ?_⟩
      cases rr with
      | ret d =>
        cases e1
        exact fun G' H' v g' h' f' d' n' rv => p1 G' H' v (s1.after g' h' f' d' n') g' rv
      | ex k =>
        cases e1
        exact fun G' H' g' h' f' => p1 G' H' g' h' fun b o e => f' _ _ (by unfold besides; rw [s1.dis _ _ e]; exact s1.frm _ _ e)
end
end FL

set_option Elab.async false
set_option linter.all false
set_option maxRecDepth 100000
set_option maxHeartbeats 2000000
/-! FL4: what is walked, targets, statements, defs. -/
namespace FL
open PySem PySem.Spec PyProof.Rows L2
/-! ### what is walked -/
structure Walks (K : PySem.W.Frag) (G' : Hp) (J : It) (ds : List D) : Prop where
  go : ∀ T F σ G H δ i, Same G' G → S (K, T) F σ G H δ → i < ds.length → J.go i H
  yld : ∀ T F σ G H δ i x H3 d, Same G' G → S (K, T) F σ G H δ → J.yld i H x H3 → ds[i]? = some d → ∃ G3, S (K, T) F σ G3 H3 δ ∧ Same G G3 ∧ Rep K G3 x d
  stop : ∀ T F σ G H δ i, Same G' G → S (K, T) F σ G H δ → ds.length ≤ i → J.stop i H
structure FI (c : SC) (tg iter : Expr) (f : M (List D)) : Prop where
  ex : ∃ wi, (∀ X, In c X → PI X tg iter wi) ∧ Sp2 c.κ c.cl c.E (Walks c.K) wi f
theorem pi_or {X : Cx} {tg it : Expr} {w w' : TI} (h : PI X tg it w) (h' : PI X tg it w') : PI X tg it (fun σ H R => w σ H R ∨ w' σ H R) :=
  ⟨fun pins s σ H R I q => q.elim (h.run pins s σ H R I) (h'.run pins s σ H R I)⟩
def seqOf : D → Option (List D)
  | .lst ds => some ds
  | .tup ds => some ds
  | _ => none
section
variable {c : SC}
theorem walks_l {K : PySem.W.Frag} {G : Hp} {a : Addr} {xs : List V} {ds : List D} (h : G a = some (.lst xs)) (r : RepL K G xs ds) : Walks K G (Itl K a) ds where
  go := fun T F σ G1 H δ i g s hi => by
    obtain ⟨d, hd⟩ : ∃ d, ds[i]? = some d := ⟨_, List.getElem?_eq_getElem hi⟩
    obtain ⟨v, h1, h2⟩ := r.get hd
    exact ⟨xs, v, .of (s.sub _ _ (g _ _ h)), h1⟩
  yld := fun T F σ G1 H δ i x H3 d g s hy hd => by
    obtain ⟨rfl, q⟩ := hy
    obtain ⟨v, h1, h2⟩ := r.get hd
    have := q xs (.of (s.sub _ _ (g _ _ h)))
    rw [h1] at this
    cases this
    exact ⟨G1, s, Same.refl _, h2.mono g⟩
  stop := fun T F σ G1 H δ i g s hi => ⟨xs, .of (s.sub _ _ (g _ _ h)), by rw [r.length]; exact hi⟩
theorem walks_t {K : PySem.W.Frag} {G : Hp} {a : Addr} {xs : List V} {ds : List D} (h : SqT K G a xs) (r : RepL K G xs ds) : Walks K G (Itt K a) ds where
  go := fun T F σ G1 H δ i g s hi => by
    obtain ⟨d, hd⟩ : ∃ d, ds[i]? = some d := ⟨_, List.getElem?_eq_getElem hi⟩
    obtain ⟨v, h1, h2⟩ := r.get hd
    exact ⟨xs, v, seqT (g.trans s.sub) h, h1⟩
  yld := fun T F σ G1 H δ i x H3 d g s hy hd => by
    obtain ⟨rfl, q⟩ := hy
    obtain ⟨v, h1, h2⟩ := r.get hd
    have := q xs (seqT (g.trans s.sub) h)
    rw [h1] at this
    cases this
    exact ⟨G1, s, Same.refl _, h2.mono g⟩
  stop := fun T F σ G1 H δ i g s hi => ⟨xs, seqT (g.trans s.sub) h, by rw [r.length]; exact hi⟩
def seqM (f : M D) : M (List D) := bindM f fun d => liftO (seqOf d)
theorem fi_seq {tg e : Expr} {f : M D} (h : FE c e f) : FI c tg e (seqM f) := by
  obtain ⟨t, pa, sa⟩ := h.ex
  refine ⟨fun σ H R => iList c.K t σ H R ∨ iTup c.K t σ H R, fun X h => by have := pi_or (tg := tg) (pi_list (pa X h)) (pi_tup (pa X h)); rwa [h.K] at this, fun F σ G H δ r s e Q p => ?_⟩
  -- which of the two: by the value
  unfold seqM bindM at e
  cases hf : f δ with
  | none => rw [hf] at e; cases e
  | some ra =>
    rw [hf] at e
    cases ra with
    | ex k => cases e; exact .inl (sa F σ G H δ _ s hf _ p)
    | ok d δ' =>
      obtain ⟨ds, hd, rfl⟩ := liftO_eq e
      cases d <;> simp only [seqOf, Option.some.injEq, reduceCtorEq] at hd
      · subst hd
        refine .inl (sa F σ G H δ _ s hf _ fun G1 H1 v s1 g1 rv => ?_)
        cases rv with
        | lst h1 h2 => exact ⟨_, rfl, ⟨_, .of (s1.sub _ _ h1)⟩, p G1 H1 _ s1 g1 (walks_l h1 h2)⟩
      · subst hd
        refine .inr (sa F σ G H δ _ s hf _ fun G1 H1 v s1 g1 rv => ?_)
        cases rv with
        | tup h1 h2 => exact ⟨_, rfl, ⟨_, seqT s1.sub h1⟩, p G1 H1 _ s1 g1 (walks_t h1 h2)⟩
/-- lo, lo + 1, .. -/
def rangeL (lo : Int) (n : Nat) : List D := (List.range n).map fun (k : Nat) => D.int (lo + k)
theorem rangeL_len (lo : Int) (n : Nat) : (rangeL lo n).length = n := by simp [rangeL]
theorem walks_r {K : PySem.W.Frag} {G : Hp} {lo : Int} {n : Nat} : Walks K G (Itr lo n) (rangeL lo n) where
  go := fun T F σ G1 H δ i g s hi => by rw [rangeL_len] at hi; exact hi
  yld := fun T F σ G1 H δ i x H3 d g s hy hd => by
    obtain ⟨rfl, rfl⟩ := hy
    unfold rangeL at hd
    rw [List.getElem?_map] at hd
    cases h : (List.range n)[i]? with
    | none => rw [h] at hd; cases hd
    | some k =>
      rw [h] at hd
      cases hd
      have : k = i := by
        have := List.getElem?_eq_some_iff.mp h
        obtain ⟨h1, h2⟩ := this
        rw [List.getElem_range] at h2
        exact h2.symm
      subst this
      exact ⟨G1, s, Same.refl _, .int _⟩
  stop := fun T F σ G1 H δ i g s hi => by rw [rangeL_len] at hi; exact hi
def inR (j : Int) : Prop := -(2 ^ 62) ≤ j ∧ j < 2 ^ 62
instance (j : Int) : Decidable (inR j) := by unfold inR; infer_instance
def rng1 : List D → Option (List D)
  | [.int j] => if inR j then some (rangeL 0 j.toNat) else none
  | _ => none
def rng2 : List D → Option (List D)
  | [.int i, .int j] => if inR i ∧ inR j then some (rangeL i (j - i).toNat) else none
  | _ => none
def itM (g : List D → Option (List D)) (f : M (List D)) : M (List D) := bindM f fun ds => liftO (g ds)
theorem fi_range1 {tg a : Expr} {f : M (List D)} {p pos : Pos} (hm : c.mg "range" = none) (ha : FA c [a] f) (hg : Gb c "range" := by rfl) (hs : ∀ env : Env, starEach [a] env = [(false, eval a env)] := by intro _; rfl) : FI c tg (.Call (.Name "range" p) [a] [] pos) (itM rng1 f) := by
  obtain ⟨t, pa, sa⟩ := ha.ex
  refine ⟨_, fun X h => pi_range1 (show X.env.scope.names.lookup _ = _ by rw [h.sc]; exact hg) (by rw [h.mg]; exact hm) (pa X h) (hs _), fun F σ G H δ r s e Q p => ?_⟩
  refine sa.step s e p fun G1 H1 δ1 x ds s1 g1 rx e1 p1 => ?_
  obtain ⟨d, hd, rfl⟩ := liftO_eq e1
  unfold rng1 at hd
  split at hd
  · split at hd
    · rename_i j hj
      cases hd
      cases rx with
      | cons h t =>
        cases t
        cases h
        exact ⟨j, rfl, hj.1, hj.2, p1 G1 H1 _ s1 (Same.refl _) walks_r⟩
    · cases hd
  · cases hd
theorem fi_range2 {tg a b : Expr} {f : M (List D)} {p pos : Pos} (hm : c.mg "range" = none) (ha : FA c [a, b] f) (hg : Gb c "range" := by rfl) (hs : ∀ env : Env, starEach [a, b] env = [(false, eval a env), (false, eval b env)] := by intro _; rfl) (hs2 : ∀ env : Env, starEach [b] env = [(false, eval b env)] := by intro _; rfl) :
    FI c tg (.Call (.Name "range" p) [a, b] [] pos) (itM rng2 f) := by
  obtain ⟨t, pa, sa⟩ := ha.ex
  refine ⟨_, fun X h => pi_range2 (show X.env.scope.names.lookup _ = _ by rw [h.sc]; exact hg) (by rw [h.mg]; exact hm) (pa X h) (hs _) (hs2 _), fun F σ G H δ r s e Q p => ?_⟩
  refine sa.step s e p fun G1 H1 δ1 x ds s1 g1 rx e1 p1 => ?_
  obtain ⟨d, hd, rfl⟩ := liftO_eq e1
  unfold rng2 at hd
  split at hd
  · split at hd
    · rename_i i j hj
      cases hd
      cases rx with
      | cons h t =>
        cases t with
        | cons h' t =>
          cases t
          cases h
          cases h'
          exact ⟨i, j, rfl, ⟨hj.1.1, hj.1.2, hj.2.1, hj.2.2⟩, p1 G1 H1 _ s1 (Same.refl _) walks_r⟩
    · cases hd
  · cases hd
/-- zip of two lists, of two tuples -/
def zipL : List D → List D → List D
  | x :: xs, y :: ys => .tup [x, y] :: zipL xs ys
  | _, _ => []
theorem zipL_get : ∀ {xs ys : List D} {i : Nat} {d : D}, (zipL xs ys)[i]? = some d → ∃ x y, xs[i]? = some x ∧ ys[i]? = some y ∧ d = .tup [x, y]
  | [], ys, i, d, h => by simp [zipL] at h
  | x :: xs, [], i, d, h => by simp [zipL] at h
  | x :: xs, y :: ys, 0, d, h => by simp [zipL] at h; exact ⟨x, y, rfl, rfl, h.symm⟩
  | x :: xs, y :: ys, i + 1, d, h => by
    have h' : (zipL xs ys)[i]? = some d := h
    obtain ⟨a, b, h1, h2, h3⟩ := zipL_get h'
    exact ⟨a, b, h1, h2, h3⟩
theorem zipL_len : ∀ {xs ys : List D}, (zipL xs ys).length = min xs.length ys.length
  | [], ys => by simp [zipL]
  | x :: xs, [] => by simp [zipL]
  | x :: xs, y :: ys => by simp only [zipL, List.length_cons, zipL_len (xs := xs) (ys := ys)]; omega
theorem two_line : 2 ≤ sizeLine := by decide
theorem walks_zl {K : PySem.W.Frag} {G : Hp} {a b : Addr} {xs ys : List V} {ds es : List D} (h : G a = some (.lst xs)) (r : RepL K G xs ds) (h' : G b = some (.lst ys)) (r' : RepL K G ys es) : Walks K G (Itz K a b) (zipL ds es) where
  go := fun T F σ G1 H δ i g s hi => by
    rw [zipL_len] at hi
    obtain ⟨d, hd⟩ : ∃ d, ds[i]? = some d := ⟨_, List.getElem?_eq_getElem (by omega)⟩
    obtain ⟨e, he⟩ : ∃ d, es[i]? = some d := ⟨_, List.getElem?_eq_getElem (by omega)⟩
    obtain ⟨v, h1, h2⟩ := r.get hd
    obtain ⟨w, h3, h4⟩ := r'.get he
    exact ⟨xs, ys, v, w, .of (s.sub _ _ (g _ _ h)), .of (s.sub _ _ (g _ _ h')), h1, h3⟩
  yld := fun T F σ G1 H δ i x H3 d g s hy hd => by
    obtain ⟨x1, y1, e1, e2, rfl⟩ := zipL_get hd
    obtain ⟨T, v1, v2, rfl, hT, rfl, q1, q2⟩ := hy
    obtain ⟨v, h1, h2⟩ := r.get e1
    obtain ⟨w, h3, h4⟩ := r'.get e2
    have z1 := q1 xs (.of (s.sub _ _ (g _ _ h)))
    have z2 := q2 ys (.of (s.sub _ _ (g _ _ h')))
    rw [h1] at z1
    rw [h3] at z2
    cases z1
    cases z2
    have gp := s.sub.free hT
    exact ⟨_, s.new hT, same_upd gp, .tup (.of upd_same) (.cons (h2.mono (g.trans (same_upd gp))) (.cons (h4.mono (g.trans (same_upd gp))) .nil))⟩
  stop := fun T F σ G1 H δ i g s hi => by
    rw [zipL_len] at hi
    refine ⟨xs, ys, .of (s.sub _ _ (g _ _ h)), .of (s.sub _ _ (g _ _ h')), ?_⟩
    rw [r.length, r'.length]
    omega
theorem walks_zt {K : PySem.W.Frag} {G : Hp} {a b : Addr} {xs ys : List V} {ds es : List D} (h : SqT K G a xs) (r : RepL K G xs ds) (h' : SqT K G b ys) (r' : RepL K G ys es) : Walks K G (RZ.ItzT K a b) (zipL ds es) where
  go := fun T F σ G1 H δ i g s hi => by
    rw [zipL_len] at hi
    obtain ⟨d, hd⟩ : ∃ d, ds[i]? = some d := ⟨_, List.getElem?_eq_getElem (by omega)⟩
    obtain ⟨e, he⟩ : ∃ d, es[i]? = some d := ⟨_, List.getElem?_eq_getElem (by omega)⟩
    obtain ⟨v, h1, h2⟩ := r.get hd
    obtain ⟨w, h3, h4⟩ := r'.get he
    exact ⟨xs, ys, v, w, seqT (g.trans s.sub) h, seqT (g.trans s.sub) h', h1, h3⟩
  yld := fun T F σ G1 H δ i x H3 d g s hy hd => by
    obtain ⟨x1, y1, e1, e2, rfl⟩ := zipL_get hd
    obtain ⟨T, v1, v2, rfl, hT, rfl, q1, q2⟩ := hy
    obtain ⟨v, h1, h2⟩ := r.get e1
    obtain ⟨w, h3, h4⟩ := r'.get e2
    have z1 := q1 xs (seqT (g.trans s.sub) h)
    have z2 := q2 ys (seqT (g.trans s.sub) h')
    rw [h1] at z1
    rw [h3] at z2
    cases z1
    cases z2
    have gp := s.sub.free hT
    exact ⟨_, s.new hT, same_upd gp, .tup (.of upd_same) (.cons (h2.mono (g.trans (same_upd gp))) (.cons (h4.mono (g.trans (same_upd gp))) .nil))⟩
  stop := fun T F σ G1 H δ i g s hi => by
    rw [zipL_len] at hi
    refine ⟨xs, ys, seqT (g.trans s.sub) h, seqT (g.trans s.sub) h', ?_⟩
    rw [r.length, r'.length]
    omega
def zipD : List D → Option (List D)
  | [.lst xs, .lst ys] => some (zipL xs ys)
  | [.tup xs, .tup ys] => some (zipL xs ys)
  | _ => none
theorem fi_zip {a b : Expr} {f : M (List D)} {p pos tpos : Pos} {elts : List Expr} {kk : Nat} (hm : c.mg "zip" = none) (ha : FA c [a, b] f) (hg : Gb c "zip" := by rfl)
    (hs : ∀ env : Env, starEach [a, b] env = (false, eval a env) :: starEach [b] env := by intro _; rfl) (hpl : ∀ env : Env, (backTo pos (starEach [b] env)).any (·.1) = false := by intro _; rfl) :
    FI c (.Tuple elts kk tpos) (.Call (.Name "zip" p) [a, b] [] pos) (itM zipD f) := by
  obtain ⟨t, pa, sa⟩ := ha.ex
  refine ⟨RZ.iZipA c.K t, fun X h => by have := RZ.pi_zipA (elts := elts) (kk := kk) (tpos := tpos) (p := p) (pos := pos) (show X.env.scope.names.lookup _ = _ by rw [h.sc]; exact hg) (by rw [h.mg]; exact hm) (pa X h) (hs _) (hpl _); rwa [h.K] at this, fun F σ G H δ r s e Q p => ?_⟩
  refine sa.step s e p fun G1 H1 δ1 x ds s1 g1 rx e1 p1 => ?_
  obtain ⟨d, hd, rfl⟩ := liftO_eq e1
  unfold zipD at hd
  split at hd
  · cases hd
    cases rx with
    | cons h t =>
      cases t with
      | cons h' t =>
        cases t
        cases h with
        | lst a1 b1 =>
          cases h' with
          | lst a2 b2 => exact ⟨_, _, _, _, rfl, .inl ⟨.of (s1.sub _ _ a1), .of (s1.sub _ _ a2), p1 G1 H1 _ s1 (Same.refl _) (walks_zl a1 b1 a2 b2)⟩⟩
  · cases hd
    cases rx with
    | cons h t =>
      cases t with
      | cons h' t =>
        cases t
        cases h with
        | tup a1 b1 =>
          cases h' with
          | tup a2 b2 => exact ⟨_, _, _, _, rfl, .inr ⟨seqT s1.sub a1, seqT s1.sub a2, p1 G1 H1 _ s1 (Same.refl _) (walks_zt a1 b1 a2 b2)⟩⟩
  · cases hd
/-- enumerate of a list -/
def enumFrom (k : Nat) : List D → List D
  | [] => []
  | x :: xs => .tup [.int (k : Nat), x] :: enumFrom (k + 1) xs
theorem enumFrom_len : ∀ {k : Nat} {xs : List D}, (enumFrom k xs).length = xs.length
  | _, [] => rfl
  | k, x :: xs => by simp only [enumFrom, List.length_cons, enumFrom_len]
theorem enumFrom_get : ∀ {k : Nat} {xs : List D} {i : Nat} {d : D}, (enumFrom k xs)[i]? = some d → ∃ x, xs[i]? = some x ∧ d = .tup [.int ((k + i : Nat) : Int), x]
  | _, [], i, d, h => by simp [enumFrom] at h
  | k, x :: xs, 0, d, h => by simp [enumFrom] at h; exact ⟨x, rfl, h.symm⟩
  | k, x :: xs, i + 1, d, h => by
    have h' : (enumFrom (k + 1) xs)[i]? = some d := h
    obtain ⟨y, h1, h2⟩ := enumFrom_get h'
    exact ⟨y, h1, by rw [h2, show k + 1 + i = k + (i + 1) by omega]⟩
theorem walks_e {K : PySem.W.Frag} {G : Hp} {a : Addr} {xs : List V} {ds : List D} (h : G a = some (.lst xs)) (r : RepL K G xs ds) : Walks K G (Ite K a) (enumFrom 0 ds) where
  go := fun T F σ G1 H δ i g s hi => by
    rw [enumFrom_len] at hi
    obtain ⟨d, hd⟩ : ∃ d, ds[i]? = some d := ⟨_, List.getElem?_eq_getElem hi⟩
    obtain ⟨v, h1, h2⟩ := r.get hd
    exact ⟨xs, v, .of (s.sub _ _ (g _ _ h)), h1⟩
  yld := fun T F σ G1 H δ i x H3 d g s hy hd => by
    obtain ⟨x1, e1, rfl⟩ := enumFrom_get hd
    obtain ⟨T, v1, rfl, hT, rfl, q1⟩ := hy
    obtain ⟨v, h1, h2⟩ := r.get e1
    have z1 := q1 xs (.of (s.sub _ _ (g _ _ h)))
    rw [h1] at z1
    cases z1
    have gp := s.sub.free hT
    rw [show 0 + i = i by omega]
    exact ⟨_, s.new hT, same_upd gp, .tup (.of upd_same) (.cons (.int _) (.cons (h2.mono (g.trans (same_upd gp))) .nil))⟩
  stop := fun T F σ G1 H δ i g s hi => by
    rw [enumFrom_len] at hi
    exact ⟨xs, .of (s.sub _ _ (g _ _ h)), by rw [r.length]; exact hi⟩
def enumD : List D → Option (List D)
  | [.lst xs] => some (enumFrom 0 xs)
  | _ => none
theorem fi_enum {a : Expr} {f : M (List D)} {p pos tpos : Pos} {elts : List Expr} {kk : Nat} (hm : c.mg "enumerate" = none) (ha : FA c [a] f) (hg : Gb c "enumerate" := by rfl) (hs : ∀ env : Env, starEach [a] env = [(false, eval a env)] := by intro _; rfl) :
    FI c (.Tuple elts kk tpos) (.Call (.Name "enumerate" p) [a] [] pos) (itM enumD f) := by
  obtain ⟨t, pa, sa⟩ := ha.ex
  refine ⟨iEnum c.K t, fun X h => by have := pi_enum (elts := elts) (kk := kk) (tpos := tpos) (p := p) (pos := pos) (show X.env.scope.names.lookup _ = _ by rw [h.sc]; exact hg) (by rw [h.mg]; exact hm) (pa X h) (hs _); rwa [h.K] at this, fun F σ G H δ r s e Q p => ?_⟩
  refine sa.step s e p fun G1 H1 δ1 x ds s1 g1 rx e1 p1 => ?_
  obtain ⟨d, hd, rfl⟩ := liftO_eq e1
  unfold enumD at hd
  split at hd
  · cases hd
    cases rx with
    | cons h t =>
      cases t
      cases h with
      | lst a1 b1 => exact ⟨_, _, rfl, .of (s1.sub _ _ a1), p1 G1 H1 _ s1 (Same.refl _) (walks_e a1 b1)⟩
  · cases hd

/-! ### targets -/
def Agr (is : List Nat) (σ σ' : L2.St) : Prop := σ'.length = σ.length ∧ ∀ j, j ∉ is → σ'[j]? = σ[j]?
theorem Agr.refl (is : List Nat) (σ : L2.St) : Agr is σ σ := ⟨rfl, fun _ _ => rfl⟩
theorem Agr.trans {is : List Nat} {a b d : L2.St} (x : Agr is a b) (y : Agr is b d) : Agr is a d := ⟨y.1.trans x.1, fun j h => (y.2 j h).trans (x.2 j h)⟩
theorem Agr.mono {is js : List Nat} {a b : L2.St} (x : Agr is a b) (h : ∀ j ∈ is, j ∈ js) : Agr js a b := ⟨x.1, fun j hj => x.2 j fun z => hj (h j z)⟩
structure FG (c : SC) (tg : Expr) (is : List Nat) (bd : D → De → Option De) : Prop where
  ex : ∃ g, (∀ X, In c X → PG X tg g) ∧ ∀ F σ G H δ v d δ', S c.κ F σ G H δ → Rep c.K G v d → bd d δ = some δ' → ∀ Q, (∀ σ', S c.κ F σ' G H δ' → Agr is σ σ' → Q σ' H) → g v σ H Q
structure FGs (c : SC) (tgs : List Expr) (is : List Nat) (bd : List D → De → Option De) : Prop where
  ex : ∃ g, (∀ X, In c X → PGs X tgs g) ∧ ∀ F σ G H δ vs ds δ', S c.κ F σ G H δ → RepL c.K G vs ds → bd ds δ = some δ' → ∀ Q, (∀ σ', S c.κ F σ' G H δ' → Agr is σ σ' → Q σ' H) → g vs σ H Q
  len : ∀ ds δ δ', bd ds δ = some δ' → ds.length = tgs.length
def bName (i : Nat) : D → De → Option De := fun d δ => some (δ.set i (.val d))
theorem Agr.set (i : Nat) (σ : L2.St) (v : Option V) : Agr [i] σ (σ.set i v) := ⟨by simp, fun j h => by rw [List.getElem?_set_ne]; simpa using Ne.symm (by simpa using h)⟩
theorem fg_name (i : Nat) {x : Str} {pos : Pos} (nd : c.N.Nodup) (hi : c.N[i]? = some x := by rfl) (hx : Loc c.sc x := by first | exact Or.inl rfl | exact Or.inr rfl) (hst : c.st x = true := by rfl) : FG c (.Name x pos) [i] (bName i) := by
  refine ⟨gName i, fun X h => pg_name (by rw [h.N]; exact nd) (by rw [h.N]; exact hi) (by rw [h.sc]; exact hx) (h.fn x hst), fun F σ G H δ v d δ' s r e Q q => ?_⟩
  cases e
  exact q _ (s.store i r) (Agr.set i σ _)
def bNil : List D → De → Option De := fun ds δ => match ds with | [] => some δ | _ => none
def bCons (b : D → De → Option De) (r : List D → De → Option De) : List D → De → Option De := fun ds δ => match ds with
  | d :: ds => match b d δ with
    | some δ' => r ds δ'
    | none => none
  | [] => none
theorem fgs_nil : FGs c [] [] bNil := by
  refine ⟨⟨gNil, fun _ _ => pgs_nil, fun F σ G H δ vs ds δ' s r e Q q => ?_⟩, fun ds δ δ' h => ?_⟩
  · cases ds with
    | nil => cases e; cases r; exact ⟨rfl, q _ s (Agr.refl _ _)⟩
    | cons _ _ => cases e
  · cases ds with
    | nil => rfl
    | cons _ _ => cases h
theorem fgs_cons {e : Expr} {es : List Expr} {is js : List Nat} {b : D → De → Option De} {r : List D → De → Option De} (h1 : FG c e is b) (h2 : FGs c es js r)
    (hs : ∀ env : Env, (assignEach (e :: es) env).map (·.2) = assign e env :: (assignEach es env).map (·.2) := by intro _; rfl) : FGs c (e :: es) (is ++ js) (bCons b r) := by
  obtain ⟨g1, p1, s1⟩ := h1.ex
  obtain ⟨g2, p2, s2⟩ := h2.ex
  refine ⟨⟨_, fun X h => pgs_cons (p1 X h) (p2 X h) (hs _), fun F σ G H δ vs ds δ' s rr e Q q => ?_⟩, fun ds δ δ' h => ?_⟩
  · cases rr with
    | nil => cases e
    | cons hv ht =>
      rename_i v vs d ds
      unfold bCons at e
      dsimp only at e
      cases hb : b d δ with
      | none => rw [hb] at e; cases e
      | some δ1 =>
        rw [hb] at e
        exact ⟨v, vs, rfl, s1 F σ G H δ v d δ1 s hv hb _ fun σ1 t1 a1 => s2 F σ1 G H δ1 vs ds δ' t1 ht e Q fun σ2 t2 a2 => q σ2 t2 ((a1.mono fun j hj => List.mem_append_left _ hj).trans (a2.mono fun j hj => List.mem_append_right _ hj))⟩
  · cases ds with
    | nil => cases h
    | cons d ds =>
      unfold bCons at h
      dsimp only at h
      cases hb : b d δ with
      | none => rw [hb] at h; cases h
      | some δ1 => rw [hb] at h; simp only [List.length_cons, h2.len ds δ1 δ' h]
def bTup (r : List D → De → Option De) : D → De → Option De := fun d δ => match seqOf d with
  | some ds => r ds δ
  | none => none
theorem pg_or {X : Cx} {tg : Expr} {t t' : TG} (h : PG X tg t) (h' : PG X tg t') : PG X tg (fun v σ H Q => t v σ H Q ∨ t' v σ H Q) :=
  ⟨fun pins s σ H v u Q I r q => q.elim (h.run pins s σ H v u Q I r) (h'.run pins s σ H v u Q I r)⟩
theorem fg_tup {es : List Expr} {is : List Nat} {r : List D → De → Option De} {k : Nat} {pos : Pos} (h : FGs c es is r)
    (hn : ∀ env : Env, (assignEach es env).length = es.length := by intro _; rfl) (hst : ∀ env : Env, (assignEach es env).findIdx? (·.1) = none := by intro _; rfl) : FG c (.Tuple es k pos) is (bTup r) := by
  obtain ⟨g, p, sp⟩ := h.ex
  refine ⟨fun v σ H Q => gTup c.K es.length g v σ H Q ∨ gUnl c.K es.length g v σ H Q, fun X h => by have := pg_or (pg_tup (k := k) (pos := pos) h.calm (p X h) (hn _) (hst _)) (pg_unl (k := k) (pos := pos) h.calm (p X h) (hn _) (hst _)); rwa [h.K] at this, fun F σ G H δ v d δ' s rr e Q q => ?_⟩
  unfold bTup at e
  cases d <;> simp only [seqOf, reduceCtorEq] at e
  · rename_i ds
    cases rr with
    | lst h1 h2 => exact .inr ⟨_, _, rfl, .of (s.sub _ _ h1), by rw [h2.length]; exact h.len _ _ _ e, sp F σ G H δ _ ds δ' s h2 e Q q⟩
  · rename_i ds
    cases rr with
    | tup h1 h2 => exact .inl ⟨_, _, rfl, seqT s.sub h1, by rw [h2.length]; exact h.len _ _ _ e, sp F σ G H δ _ ds δ' s h2 e Q q⟩
end
end FL

set_option Elab.async false
set_option linter.all false
set_option maxRecDepth 100000
set_option maxHeartbeats 2000000
/-! FL5: statements, defs. -/
namespace FL
open PySem PySem.Spec PyProof.Rows L2
inductive Out where
  | nx (δ : De) | rt (d : D) | ex (c : Nat) | bk (δ : De) | ct (δ : De)
abbrev Fo := De → Option Out
section
variable (κ : PySem.W.Frag × List (Addr × PySem.Str)) (cl : Nat → Addr) (E : XK) (F : Hp) (G : Hp)
def PostS (Dn : Ends) : Out → Prop
  | .nx δ' => ∀ σ' G' H', S κ F σ' G' H' δ' → Same G G' → Dn.nx σ' H'
  | .bk δ' => ∀ σ' G' H', S κ F σ' G' H' δ' → Same G G' → Dn.bk σ' H'
  | .ct δ' => ∀ σ' G' H', S κ F σ' G' H' δ' → Same G G' → Dn.ct σ' H'
  | .rt d => ∀ σ' G' H' δ' v, S κ F σ' G' H' δ' → Same G G' → Rep κ.1 G' v d → Dn.rt v H'
  | .ex c => ∀ G' H', Same G G' → Same G' H' → Same F H' → E (.ref (cl c)) none H'
end
def SpS (κ : PySem.W.Frag × List (Addr × PySem.Str)) (cl : Nat → Addr) (E : XK) (t : TS) (f : Fo) : Prop :=
  ∀ F σ G H δ o, S κ F σ G H δ → f δ = some o → ∀ Dn, PostS κ cl E F G Dn o → t Dn σ H
structure FS1 (c : SC) (st : Stmt) (f : Fo) : Prop where
  ex : ∃ t, (∀ X, In c X → PS X st t) ∧ SpS c.κ c.cl c.E t f
structure FS (c : SC) (sts : List Stmt) (f : Fo) : Prop where
  ex : ∃ t, (∀ X, In c X → PSs X sts t) ∧ SpS c.κ c.cl c.E t f
theorem PostS.weak {K : PySem.W.Frag} {T : List (Addr × PySem.Str)} {cl : Nat → Addr} {E : XK} {F G G1 : Hp} {Dn : Ends} (e : Same G G1) : ∀ {o : Out}, PostS (K, T) cl E F G Dn o → PostS (K, T) cl E F G1 Dn o
  | .nx _, h => fun σ' G' H' s g => h σ' G' H' s (e.trans g)
  | .bk _, h => fun σ' G' H' s g => h σ' G' H' s (e.trans g)
  | .ct _, h => fun σ' G' H' s g => h σ' G' H' s (e.trans g)
  | .rt _, h => fun σ' G' H' δ' v s g => h σ' G' H' δ' v s (e.trans g)
  | .ex _, h => fun G' H' g => h G' H' (e.trans g)
/-- an expression's outcome, then the rest -/
def thenS {α : Type} (m : M α) (k : α → Fo) : Fo := fun δ => match m δ with
  | none => none
  | some (.ex c) => some (.ex c)
  | some (.ok a δ') => k a δ'
@[simp] theorem thenS_pure {α : Type} (a : α) (k : α → Fo) : thenS (pureM a) k = k a := rfl
theorem Sp2.stepS {K : PySem.W.Frag} {T : List (Addr × PySem.Str)} {cl : Nat → Addr} {E : XK} {ν α : Type} {RA : Hp → ν → α → Prop} {ta : L2.St → Hp → (ν → Hp → Prop) → Prop} {fa : M α} (ha : Sp2 (K, T) cl E RA ta fa) {F : Hp} {σ : L2.St} {G H : Hp} {δ : De} {g : α → Fo} {o : Out} {Dn : Ends} {k : ν → Hp → Prop}
    (s : S (K, T) F σ G H δ) (e : thenS fa g δ = some o) (p : PostS (K, T) cl E F G Dn o)
    (hk : ∀ G' H' δ' x a, S (K, T) F σ G' H' δ' → Same G G' → RA G' x a → g a δ' = some o → PostS (K, T) cl E F G' Dn o → k x H') : ta σ H k := by
  unfold thenS at e
  cases h : fa δ with
  | none => rw [h] at e; cases e
  | some ra =>
    rw [h] at e
    refine ha F σ G H δ ra s h _ ?_
    cases ra with
    | ex c =>
      cases e
      exact p
    | ok a δ' => exact fun G' H' v s' g' rv => hk G' H' δ' v a s' g' rv e (p.weak g')
def nxS : Fo := fun δ => some (.nx δ)
def seqS (f g : Fo) : Fo := fun δ => match f δ with
  | some (.nx δ') => g δ'
  | o => o
section
variable {c : SC}
theorem fs_nil : FS c [] nxS := ⟨_, fun _ _ => pss_nil, fun F σ G H δ o s e Dn p => by cases e; exact p σ G H s (Same.refl _)⟩
theorem fs_one {st : Stmt} {f : Fo} (h : FS1 c st f) : FS c [st] f := by
  obtain ⟨t, p, s⟩ := h.ex
  exact ⟨t, fun X h => pss_one (p X h), s⟩
theorem fs_cons {st : Stmt} {r : List Stmt} {f g : Fo} (h : FS1 c st f) (h' : FS c r g) : FS c (st :: r) (seqS f g) := by
  obtain ⟨t, p, s⟩ := h.ex
  obtain ⟨t', p', s'⟩ := h'.ex
  refine ⟨_, fun X h => pss_cons (p X h) (p' X h), fun F σ G H δ o st e Dn q => ?_⟩
  unfold seqS at e
  cases h : f δ with
  | none => rw [h] at e; cases e
  | some o1 =>
    rw [h] at e
    refine s F σ G H δ o1 st h _ ?_
    cases o1 with
    | nx δ1 =>
      dsimp only at e
      exact fun σ1 G1 H1 s1 g1 => s' F σ1 G1 H1 δ1 o s1 e Dn (q.weak g1)
    | rt d => cases e; exact q
    | ex k => cases e; exact q
    | bk δ1 => cases e; exact q
    | ct δ1 => cases e; exact q
theorem fs_pass {pos} : FS1 c (.Pass pos) nxS := ⟨_, fun _ _ => ps_pass, fun F σ G H δ o s e Dn p => by cases e; exact p σ G H s (Same.refl _)⟩
theorem fs_break {pos} : FS1 c (.Break pos) (fun δ => some (.bk δ)) := ⟨_, fun _ _ => ps_break, fun F σ G H δ o s e Dn p => by cases e; exact p σ G H s (Same.refl _)⟩
theorem fs_continue {pos} : FS1 c (.Continue pos) (fun δ => some (.ct δ)) := ⟨_, fun _ _ => ps_continue, fun F σ G H δ o s e Dn p => by cases e; exact p σ G H s (Same.refl _)⟩
theorem fs_ret {e : Expr} {f : M D} {pos} (h : FE c e f) : FS1 c (.Return (some e) pos) (thenS f fun d _ => some (.rt d)) := by
  obtain ⟨t, pa, sa⟩ := h.ex
  refine ⟨_, fun X h => ps_ret (pa X h), fun F σ G H δ o s e Dn p => ?_⟩
  refine sa.stepS s e p fun G1 H1 δ1 x d s1 g1 rx e1 p1 => ?_
  cases e1
  exact p1 σ G1 H1 δ1 x s1 (Same.refl _) rx
theorem fs_retN {pos} : FS1 c (.Return none pos) (fun _ => some (.rt .non)) :=
  ⟨_, fun _ _ => ps_retN, fun F σ G H δ o s e Dn p => by cases e; exact p σ G H δ _ s (Same.refl _) .non⟩
theorem fs_if {e : Expr} {a b : List Stmt} {t : M Bool} {f g : Fo} {pos} (h : FT c e t) (ha : FS c a f) (hb : FS c b g) : FS1 c (.If e a b pos) (thenS t fun k => if k then f else g) := by
  obtain ⟨tt, pt, st⟩ := h.ex
  obtain ⟨ta, pa, sa⟩ := ha.ex
  obtain ⟨tb, pb, sb⟩ := hb.ex
  refine ⟨_, fun X h => ps_if (pt X h) (pa X h) (pb X h), fun F σ G H δ o s e Dn p => ?_⟩
  refine st.stepS s e p fun G1 H1 δ1 x k s1 g1 rx e1 p1 => ?_
  have ek : x = k := rx
  subst ek
  cases x with
  | true => rw [if_pos rfl]; exact sa F σ G1 H1 δ1 o s1 e1 Dn p1
  | false => rw [if_neg Bool.false_ne_true]; exact sb F σ G1 H1 δ1 o s1 e1 Dn p1
/-- x = e -/
theorem fs_set (i : Nat) {x : Str} {e : Expr} {f : M D} {pos pos' : Pos} (nd : c.N.Nodup) (he : FE c e f) (hi : c.N[i]? = some x := by rfl) (hx : Loc c.sc x := by first | exact Or.inl rfl | exact Or.inr rfl) (hst : c.st x = true := by rfl)
    (hs : ∀ env : Env, env.scope = c.sc → swapsWith e (some (.Name x pos')) pos.line env = pure false := by intro _ _; rfl) : FS1 c (.Assign [.Name x pos'] e pos) (thenS f fun d δ => some (.nx (δ.set i (.val d)))) := by
  obtain ⟨t, pa, sa⟩ := he.ex
  refine ⟨_, fun X h => ps_set (i := i) (by rw [h.N]; exact nd) (by rw [h.N]; exact hi) (by rw [h.sc]; exact hx) (pa X h) (hs _ h.sc) (h.fn x hst), fun F σ G H δ o s e Dn p => ?_⟩
  refine sa.stepS s e p fun G1 H1 δ1 v d s1 g1 rx e1 p1 => ?_
  cases e1
  exact p1 _ G1 H1 (s1.store i rx) (Same.refl _)
/-- x = [..], a list of one's own -/
theorem fs_setOwn (i : Nat) {x : Str} {es : List Expr} {f : M (List D)} {pos pos' p2 : Pos} (nd : c.N.Nodup) (he : FA c es f) (hi : c.N[i]? = some x := by rfl) (hx : Loc c.sc x := by first | exact Or.inl rfl | exact Or.inr rfl) (hst : c.st x = true := by rfl)
    (hs : ∀ env : Env, env.scope = c.sc → swapsWith (.List es p2) (some (.Name x pos')) pos.line env = pure false := by intro _ _; rfl) : FS1 c (.Assign [.Name x pos'] (.List es p2) pos) (thenS f fun ds δ => if ds.length ≤ 1000000 then some (.nx (δ.set i (.own ds))) else none) := by
  obtain ⟨t, pa, sa⟩ := he.ex
  refine ⟨_, fun X h => ps_set (i := i) (by rw [h.N]; exact nd) (by rw [h.N]; exact hi) (by rw [h.sc]; exact hx) (pe_lst (pa X h)) (hs _ h.sc) (h.fn x hst), fun F σ G H δ o s e Dn p => ?_⟩
  refine sa.stepS s e p fun G1 H1 δ1 vs ds s1 g1 rx e1 p1 => ?_
  split at e1
  · rename_i hl
    cases e1
    exact ⟨by rw [rx.length]; exact small6 hl, fun q hq => p1 _ G1 _ (s1.storeOwn i hq rx) (Same.refl _)⟩
  · cases e1
/-- a, b = e (not two displays) -/
theorem fs_asg {tg e : Expr} {f : M D} {is : List Nat} {bd : D → De → Option De} {pos : Pos} (he : FE c e f) (hg : FG c tg is bd)
    (hs : ∀ env : Env, env.scope = c.sc → swapsWithSole [tg] e pos.line env = pure false := by intro _ _; rfl) (hw : ∀ env : Env, env.scope = c.sc → swappedStores [tg] e env = pure none := by intro _ _; rfl)
    (h1 : ∀ env : Env, (assignEach [tg] env).map (·.2) = [assign tg env] := by intro _; rfl) : FS1 c (.Assign [tg] e pos) (thenS f fun d δ => (bd d δ).map .nx) := by
  obtain ⟨t, pa, sa⟩ := he.ex
  obtain ⟨g, pg, sg⟩ := hg.ex
  refine ⟨_, fun X h => ps_asg (pa X h) (pg X h) (hs _ h.sc) (hw _ h.sc) (h1 _), fun F σ G H δ o s e Dn p => ?_⟩
  refine sa.stepS s e p fun G1 H1 δ1 v d s1 g1 rx e1 p1 => ?_
  cases hb : bd d δ1 with
  | none => rw [hb] at e1; cases e1
  | some δ2 =>
    rw [hb] at e1
    cases e1
    exact sg F σ G1 H1 δ1 v d δ2 s1 rx hb _ fun σ' s' a => p1 σ' G1 H1 s' (Same.refl _)
/-- a, b = x, y -/
theorem fs_par (i j : Nat) {x y : Str} {a b : Expr} {f : M (List D)} {px py pt : Pos} {kt k2 pt2} {pos : Pos} (nd : c.N.Nodup) (ha : FA c [a, b] f) (hi : c.N[i]? = some x := by rfl) (hj : c.N[j]? = some y := by rfl) (hij : i ≠ j := by decide)
    (hx : c.sc.names.lookup x = some .local := by rfl) (hy : c.sc.names.lookup y = some .local := by rfl)
    (hw : ∀ env : Env, env.scope = c.sc → swappedStores [.Tuple [.Name x px, .Name y py] kt pt] (.Tuple [a, b] k2 pt2) env = pure (some [x, y]))
    (hs : ∀ env : Env, env.scope = c.sc → swapsWithSole [.Tuple [.Name x px, .Name y py] kt pt] (.Tuple [a, b] k2 pt2) pos.line env = pure false := by intro _ _; rfl) :
    FS1 c (.Assign [.Tuple [.Name x px, .Name y py] kt pt] (.Tuple [a, b] k2 pt2) pos) (thenS f fun ds δ => match ds with | [d, e] => some (.nx ((δ.set i (.val d)).set j (.val e))) | _ => none) := by
  obtain ⟨t, pa, sa⟩ := ha.ex
  refine ⟨_, fun X h => ps_par h.calm (by rw [h.N]; exact nd) (by rw [h.N]; exact hi) (by rw [h.N]; exact hj) hij (by rw [h.sc]; exact hx) (by rw [h.sc]; exact hy) (pa X h) (hw _ h.sc) (hs _ h.sc), fun F σ G H δ o s e Dn p => ?_⟩
  refine sa.stepS s e p fun G1 H1 δ1 vs ds s1 g1 rx e1 p1 => ?_
  split at e1
  · cases e1
    cases rx with
    | cons h t =>
      cases t with
      | cons h' t =>
        cases t
        exact ⟨_, _, rfl, p1 _ G1 H1 ((s1.store i h).store j h') (Same.refl _)⟩
  · cases e1
/-- an expression alone -/
theorem fs_expr {e : Expr} {f : M D} {pos : Pos} (he : FE c e f) (hs : ∀ env : Env, env.scope = c.sc → swapsWith e none pos.line env = pure false := by intro _ _; rfl) : FS1 c (.Expr e pos) (thenS f fun _ => nxS) := by
  obtain ⟨t, pa, sa⟩ := he.ex
  refine ⟨_, fun X h => ps_expr (pa X h) (hs _ h.sc), fun F σ G H δ o s e Dn p => ?_⟩
  refine sa.stepS s e p fun G1 H1 δ1 v d s1 g1 rx e1 p1 => ?_
  cases e1
  exact p1 _ G1 H1 s1 (Same.refl _)
def ownAt (δ : De) (i : Nat) : Option (List D) := match δ[i]? with
  | some (.own xs) => some xs
  | _ => none
theorem ownAt_some {δ : De} {i : Nat} {xs : List D} (h : ownAt δ i = some xs) : δ[i]? = some (.own xs) := by
  unfold ownAt at h
  split at h
  · rename_i q; cases h; exact q
  · cases h
def appS (i : Nat) (f : M D) : Fo := fun δ => match ownAt δ i with
  | none => none
  | some _ => thenS f (fun d δ => match ownAt δ i with
    | some xs => if xs.length < 1000000 then some (.nx (δ.set i (.own (xs ++ [d])))) else none
    | none => none) δ
theorem lt6 {n : Nat} (h : n < 1000000) : n < sizeLine := by rw [sizeLine_eq]; omega
/-- x.append(e), x a list of one's own -/
theorem fs_append (i : Nat) {x : Str} {e : Expr} {f : M D} {p1 p2 p3 pos : Pos} (he : FE c e f) (hN : c.N[i]? = some x := by rfl) (hv : Vis c.sc x := by first | exact Or.inl rfl | exact Or.inr (Or.inl rfl) | exact Or.inr (Or.inr rfl))
    (hd : (x == ("__debug__" : Str)) = false := by decide) (hcd : (x == ("__classdict__" : Str)) = false := by decide)
    (hst : ∀ env : Env, starEach [e] env = (false, eval e env) :: starEach [] env := by intro _; rfl) (hpl : ∀ env : Env, (backTo p3 (starEach [] env)).any (·.1) = false := by intro _; rfl)
    (hb : ∀ env : Env, attributeBase (.Name x p1) "append" env (eval (.Name x p1) env) = eval (.Name x p1) env := by intro _; rfl)
    (hfew : ∀ env : Env, ((backTo p3 (starEach [e] env)).all (fun x => !x.1) && (backToKw p3 (keywordEach [] env)).all (fun x => x.1.isSome) && decide (([e] : List Expr).length + ([] : List Keyword).length + (if ([] : List Keyword).isEmpty then 0 else 1) < 30)) = true := by intro _; rfl)
    (hl : (p2.endLine == p3.line) = true := by rfl)
    (hs : ∀ env : Env, env.scope = c.sc → swapsWith (.Call (.Attribute (.Name x p1) "append" p2) [e] [] p3) none pos.line env = pure false := by intro _ _; rfl) :
    FS1 c (.Expr (.Call (.Attribute (.Name x p1) "append" p2) [e] [] p3) pos) (appS i f) := by
  obtain ⟨t, pa, sa⟩ := he.ex
  refine ⟨tDrop (tBM c.K "list" rAppend (tVar i) (tCons t tNil)), fun X h => ?_, fun F σ G H δ o s e Dn p => ?_⟩
  · have q := pe_bm (X := X) PySem.F.plainAttrs_list PySem.F.slot_list_append PySem.F.type_list_append mt_append (pe_var (i := i) (x := x) (pos := p1) (by rw [h.N]; exact hN) (by rw [h.sc]; exact hv) hd hcd) (pa_cons (pa X h) pa_nil (hst _)) (hb _) (hfew _) hl (hst _) (hpl _)
    rw [h.K] at q
    exact ps_expr q (hs _ h.sc)
  · unfold appS at e
    cases h0 : ownAt δ i with
    | none => rw [h0] at e; cases e
    | some xs0 =>
      rw [h0] at e
      dsimp only at e
      obtain ⟨q, vs, e1, e2, e3, e4, e5⟩ := s.own i xs0 (ownAt_some h0)
      refine ⟨_, e1, .inl ⟨rfl, _, .inl (.inl e2)⟩, ?_⟩
      refine sa.stepS s e p fun G1 H1 δ1 v d s1 g1 rx e1' p1 => ?_
      cases h1 : ownAt δ1 i with
      | none => rw [h1] at e1'; cases e1'
      | some xs =>
        rw [h1] at e1'
        dsimp only at e1'
        split at e1'
        · rename_i hl
          cases e1'
          obtain ⟨q', ws, f1, f2, f3, f4, f5⟩ := s1.own i xs (ownAt_some h1)
          rw [e1] at f1
          cases f1
          refine ⟨_, ws, v, rfl, rfl, f2, by rw [f3.length]; exact lt6 hl, ?_⟩
          exact p1 σ G1 _ (s1.setOwn (ownAt_some h1) e1 (f3.append (.cons rx .nil))) (Same.refl _)
        · cases e1'
/-- x[k] = e, x a list of one's own -/
def setIxS (i : Nat) (f g : M D) : Fo := thenS f fun d δ => match ownAt δ i with
  | none => none
  | some _ => thenS g (fun k δ => match k, ownAt δ i with
    | .int k, some xs => match ixN xs.length k with
      | some j => some (.nx (δ.set i (.own (xs.set j d))))
      | none => none
    | _, _ => none) δ
theorem fs_setIx (i : Nat) {x : Str} {e k : Expr} {f g : M D} {p1 p2 pos : Pos} (he : FE c e f) (hk : FE c k g) (hN : c.N[i]? = some x := by rfl) (hv : Vis c.sc x := by first | exact Or.inl rfl | exact Or.inr (Or.inl rfl) | exact Or.inr (Or.inr rfl))
    (hd : (x == ("__debug__" : Str)) = false := by decide) (hcd : (x == ("__classdict__" : Str)) = false := by decide)
    (ha : ∀ (env : Env) v, assign (.Subscript (.Name x p1) k p2) env v = (do
      let ov ← holding [v] (eval (.Name x p1) env)
      let iv ← holding [v, ov] (eval k env)
      standAt p2
      holding [v, ov, iv] (setItem ov iv v)
      release [v, ov, iv] []) := by intro _ _; rfl)
    (hs : ∀ env : Env, env.scope = c.sc → swapsWithSole [.Subscript (.Name x p1) k p2] e pos.line env = pure false := by intro _ _; rfl) (hw : ∀ env : Env, env.scope = c.sc → swappedStores [.Subscript (.Name x p1) k p2] e env = pure none := by intro _ _; rfl)
    (h1 : ∀ env : Env, (assignEach [.Subscript (.Name x p1) k p2] env).map (·.2) = [assign (.Subscript (.Name x p1) k p2) env] := by intro _; rfl) :
    FS1 c (.Assign [.Subscript (.Name x p1) k p2] e pos) (setIxS i f g) := by
  obtain ⟨t, pa, sa⟩ := he.ex
  obtain ⟨tk, pk, sk⟩ := hk.ex
  refine ⟨_, fun X h => ps_asg (pa X h) (pg_sub (pe_var (i := i) (x := x) (pos := p1) (by rw [h.N]; exact hN) (by rw [h.sc]; exact hv) hd hcd) (pk X h) set_list (ha _)) (hs _ h.sc) (hw _ h.sc) (h1 _), fun F σ G H δ o s e Dn p => ?_⟩
  refine sa.stepS s e p fun G1 H1 δ1 v d s1 g1 rx e1 p1 => ?_
  cases h0 : ownAt δ1 i with
  | none => rw [h0] at e1; cases e1
  | some xs0 =>
    rw [h0] at e1
    dsimp only at e1
    obtain ⟨q, vs, q1, q2, q3, q4, q5⟩ := s1.own i xs0 (ownAt_some h0)
    refine ⟨_, q1, ?_⟩
    refine sk.stepS s1 e1 p1 fun G2 H2 δ2 u k s2 g2 ry e2 p2 => ?_
    cases k <;> try (cases e2)
    rename_i kk
    cases ry
    cases h2 : ownAt δ2 i with
    | none => rw [h2] at e2; cases e2
    | some xs =>
      rw [h2] at e2
      dsimp only at e2
      cases h3 : ixN xs.length kk with
      | none => rw [h3] at e2; cases e2
      | some j =>
        rw [h3] at e2
        cases e2
        obtain ⟨q', ws, f1, f2, f3, f4, f5⟩ := s2.own i xs (ownAt_some h2)
        rw [q1] at f1
        cases f1
        refine ⟨_, ws, kk, j, rfl, rfl, f2, by rw [f3.length]; exact h3, ?_⟩
        exact p2 σ G2 _ (s2.setOwn (ownAt_some h2) q1 (f3.set (rx.mono g2) j)) (Same.refl _)
/-- a list of one's own is read as a value from now on: no step of the program -/
def freezeS (i : Nat) (f : Fo) : Fo := fun δ => match ownAt δ i with
  | some xs => f (δ.set i (.val (.lst xs)))
  | none => none
theorem fs_freeze (i : Nat) {sts : List Stmt} {f : Fo} (h : FS c sts f) : FS c sts (freezeS i f) := by
  obtain ⟨t, p, sp⟩ := h.ex
  refine ⟨t, p, fun F σ G H δ o s e Dn q => ?_⟩
  unfold freezeS at e
  cases h0 : ownAt δ i with
  | none => rw [h0] at e; cases e
  | some xs =>
    rw [h0] at e
    obtain ⟨a, vs, h1, h2, h3, h4, s'⟩ := s.freeze (ownAt_some h0)
    exact sp F σ _ H _ o s' e Dn (q.weak (same_upd h2))
/-- x op= e, ints -/
theorem fs_aug (i : Nat) {x : Str} {op : Operator} {g : Int → Int → Int} {e : Expr} {f : M D} {pos pos' : Pos} (nd : c.N.Nodup) (he : FE c e f) (ho : ∀ X, In c X → PIp X op (ipI g)) (hi : c.N[i]? = some x := by rfl) (hx : Loc c.sc x := by first | exact Or.inl rfl | exact Or.inr rfl) (hst : c.st x = true := by rfl) :
    FS1 c (.AugAssign (.Name x pos') op e pos) (thenS (bindM (varM i) fun a => bindM f fun b => liftO (int2 (fun i j => .int (g i j)) a b)) fun d δ => some (.nx (δ.set i (.val d)))) := by
  obtain ⟨t, pa, sa⟩ := he.ex
  refine ⟨_, fun X h => ps_aug (i := i) (by rw [h.N]; exact nd) (by rw [h.N]; exact hi) (by rw [h.sc]; exact hx) (pa X h) (ho X h) (h.fn x hst), fun F σ G H δ o s e Dn p => ?_⟩
  unfold thenS at e
  cases hv : varM i δ with
  | none => unfold bindM at e; rw [hv] at e; cases e
  | some ra =>
    cases ra with
    | ex k => unfold varM at hv; split at hv <;> cases hv
    | ok a δ' =>
      have ed : δ' = δ ∧ δ[i]? = some (.val a) := by
        unfold varM at hv
        split at hv
        · rename_i d hd; cases hv; exact ⟨rfl, hd⟩
        · cases hv
      obtain ⟨rfl, hd⟩ := ed
      rw [bindM_ok hv] at e
      obtain ⟨v, h1, h2⟩ := s.val i a hd
      refine ⟨v, h1, ?_⟩
      have e' : thenS (bindM f fun b => liftO (int2 (fun i j => .int (g i j)) a b)) (fun d δ => some (Out.nx (δ.set i (.val d)))) δ' = some o := e
      have sb : Sp2 c.κ c.cl c.E (Rep c.K) t f := sa
      -- f, then the operator
      have e2 : thenS f (fun b => thenS (liftO (int2 (fun i j => .int (g i j)) a b)) (fun d δ => some (Out.nx (δ.set i (.val d))))) δ' = some o := by
        rw [← e']
        unfold thenS bindM
        cases f δ' with
        | none => rfl
        | some rb => cases rb <;> rfl
      refine sb.stepS s e2 p fun G1 H1 δ1 u b s1 g1 ry e3 p1 => ?_
      cases hb : int2 (fun i j => .int (g i j)) a b with
      | none => rw [hb] at e3; cases e3
      | some d =>
        rw [hb] at e3
        cases e3
        unfold int2 at hb
        split at hb
        · cases hb
          cases h2
          cases ry
          exact ⟨_, _, rfl, rfl, p1 _ G1 H1 (s1.store i (.int _)) (Same.refl _)⟩
        · cases hb
/-! raise X('..') -/
structure ExcC (K : PySem.W.Frag) (mg : Str → Option Value) (x : Str) (C : Addr) : Prop where
  g : mg x = some (.ref C)
  x : PySem.W.excIn K C [.type "ValueError", .type "Exception", .type "BaseException", .type "object"] "ValueError.__new__" = true
  k : PySem.W.keepIn K (.ref C) = true
  b : PySem.W.subIn K (.ref C) (.type "BaseException") = some true
  t : PySem.W.typeIn K (.ref C) = some (.type "type")
theorem fs_raise (n : Nat) {x m : Str} {j : Nat} {p p2 p3 pos : Pos} (h : ExcC c.K c.mg x (c.cl n)) (hg : Gb c x := by rfl) (hdb : (x == ("__debug__" : Str)) = false := by decide) :
    FS1 c (.Raise (some (.Call (.Name x p) [.Constant (.str m) j p2] [] p3)) none pos) (fun _ => some (.ex n)) := by
  refine ⟨_, fun X q => ps_raise q.calm q.tk (pmk_own PySem.F.excBase_ValueError (by rw [q.K]; exact h.x) (by rw [q.mg]; exact h.g) (by rw [q.K]; exact h.k) (raises_own (by rw [q.K]; exact h.b) (by rw [q.K]; exact h.t)) (show X.env.scope.names.lookup _ = _ by rw [q.sc]; exact hg) hdb), fun F σ G H δ o s e Dn p => ?_⟩
  cases e
  exact p G H (Same.refl _) s.sub s.frm
/-! for -/
def forD (bd : D → De → Option De) (body : Fo) : List D → Fo
  | [], δ => some (.nx δ)
  | x :: r, δ => match bd x δ with
    | none => none
    | some δ1 => match body δ1 with
      | some (.nx δ2) => forD bd body r δ2
      | some (.ct δ2) => forD bd body r δ2
      | some (.bk δ2) => some (.nx δ2)
      | o => o
theorem fs_for {tg iter : Expr} {body : List Stmt} {items : M (List D)} {is : List Nat} {bd : D → De → Option De} {f : Fo} {pos : Pos} (hi : FI c tg iter items) (hg : FG c tg is bd) (hb : FS c body f)
    (hs : ∀ (env : Env) x, foldedSetIterable iter env x = pure x := by intro _ _; rfl) : FS1 c (.For tg iter body [] pos) (thenS items fun ds => forD bd f ds) := by
  obtain ⟨wi, pi, si⟩ := hi.ex
  obtain ⟨g, pg, sg⟩ := hg.ex
  obtain ⟨t, pb, sb⟩ := hb.ex
  refine ⟨_, fun X h => ps_for h.po h.calm (pi X h) (pg X h) (pb X h) (hs _), fun F σ G H δ o s e Dn p => ?_⟩
  refine si.stepS s e p fun G1 H1 δ1 J ds s1 g1 W e1 p1 => ?_
  refine ⟨fun i m σ H => m = ds.length - i ∧ i ≤ ds.length ∧ ∃ G2 δ2, Same G1 G2 ∧ S c.κ F σ G2 H δ2 ∧ forD bd f (ds.drop i) δ2 = some o, ⟨ds.length, by simp, Nat.zero_le _, G1, δ1, Same.refl _, s1, e1⟩, ?_⟩
  rintro i m σ2 H2 ⟨rfl, hi, G2, δ2, g2, s2, e2⟩
  by_cases hl : i < ds.length
  · have hd : ds[i]? = some ds[i] := List.getElem?_eq_getElem hl
    have edr : ds.drop i = ds[i] :: ds.drop (i + 1) := (List.drop_eq_getElem_cons hl)
    rw [edr, forD] at e2
    cases hbd : bd ds[i] δ2 with
    | none => rw [hbd] at e2; cases e2
    | some δ3 =>
      rw [hbd] at e2
      dsimp only at e2
      refine .inr ⟨W.go _ F σ2 G2 H2 δ2 i g2 s2 hl, fun σ' H' => ∃ G5 δ5, Same G1 G5 ∧ S c.κ F σ' G5 H' δ5 ∧ forD bd f (ds.drop (i + 1)) δ5 = some o, fun σ' H' ⟨G5, δ5, z1, z2, z3⟩ => ⟨ds.length - (i + 1), by omega, rfl, hl, G5, δ5, z1, z2, z3⟩, fun x H3 hy => ?_⟩
      obtain ⟨G3, s3, g3, rx⟩ := W.yld _ F σ2 G2 H2 δ2 i x H3 _ g2 s2 hy hd
      refine sg F σ2 G3 H3 δ2 x _ δ3 s3 rx hbd _ fun σ3 s4 _ => ?_
      have g13 : Same G1 G3 := g2.trans g3
      cases hf : f δ3 with
      | none => rw [hf] at e2; cases e2
      | some o1 =>
        rw [hf] at e2
        refine sb F σ3 G3 H3 δ3 o1 s4 hf _ ?_
        cases o1 with
        | nx δ4 => exact fun σ' G' H' s' g' => ⟨G', δ4, g13.trans g', s', e2⟩
        | ct δ4 => exact fun σ' G' H' s' g' => ⟨G', δ4, g13.trans g', s', e2⟩
        | bk δ4 => cases e2; exact fun σ' G' H' s' g' => p1 σ' G' H' s' (g13.trans g')
        | rt d => cases e2; exact fun σ' G' H' δ' v s' g' rv => p1 σ' G' H' δ' v s' (g13.trans g') rv
        | ex k => cases e2; exact fun G' H' g' => p1 G' H' (g13.trans g')
  · have ei : i = ds.length := by omega
    subst ei
    rw [List.drop_length] at e2
    cases e2
    exact .inl ⟨W.stop _ F σ2 G2 H2 δ2 _ g2 s2 (Nat.le_refl _), p1 σ2 G2 H2 s2 g2⟩
end

/-! ### defs -/
def startD (N : List Str) (ds : List D) : De := ds.map Sl.val ++ List.replicate (N.length - ds.length) Sl.un
def outRes : Option Out → Option Res
  | some (.rt d) => some (.ret d)
  | some (.nx _) => some (.ret .non)
  | some (.ex k) => some (.ex k)
  | _ => none
def defF (N : List Str) (n : Nat) (f : Fo) : DF := fun ds => if ds.length = n then outRes (f (startD N ds)) else none
theorem start_len {N : List Str} {vs : List V} (h : vs.length ≤ N.length) : (L2.start N vs).length = N.length := by
  unfold L2.start; simp; omega
theorem startD_len {N : List Str} {ds : List D} (h : ds.length ≤ N.length) : (startD N ds).length = N.length := by
  unfold startD; simp; omega
theorem S.start {K : PySem.W.Frag} {F G H : Hp} {N : List Str} {vs : List V} {ds : List D} (sub : Same G H) (frm : Same F H) (dis : ∀ b o, F b = some o → G b = none) (ng : ∀ b ps, G b ≠ some (.tbl ps)) (r : RepL K G vs ds) (h : ds.length ≤ N.length) : S (K, []) F (L2.start N vs) G H (startD N ds) := by
  have hv : vs.length ≤ N.length := by rw [r.length]; exact h
  have vl : ∀ (i : Nat) d, (startD N ds)[i]? = some (.val d) → ds[i]? = some d := fun i d e => by
    unfold startD at e
    rw [List.getElem?_append] at e
    split at e
    · rw [List.getElem?_map] at e
      cases q : ds[i]? with
      | none => rw [q] at e; cases e
      | some d' => rw [q] at e; cases e; rfl
    · rw [List.getElem?_replicate] at e
      split at e <;> cases e
  have no : ∀ (i : Nat) xs, (startD N ds)[i]? ≠ some (.own xs) := fun i xs e => by
    unfold startD at e
    rw [List.getElem?_append] at e
    split at e
    · rw [List.getElem?_map] at e
      cases q : ds[i]? with
      | none => rw [q] at e; cases e
      | some d' => rw [q] at e; cases e
    · rw [List.getElem?_replicate] at e
      split at e <;> cases e
  refine ⟨sub, frm, dis, by rw [startD_len h, start_len hv], fun i d e => ?_, fun i xs e => absurd e (no i xs), fun i j xs ys _ e => absurd e (no i xs), fun x hx => absurd (show x ∈ ([] : List (Addr × PySem.Str)) from hx) (by simp), fun x hx => absurd (show x ∈ ([] : List (Addr × PySem.Str)) from hx) (by simp), ng, .inl rfl⟩
  obtain ⟨v, h1, h2⟩ := r.get (vl i d e)
  refine ⟨v, ?_, h2⟩
  unfold L2.start
  rw [List.getElem?_append_left (by
    have := List.getElem?_eq_some_iff.mp h1
    obtain ⟨z, _⟩ := this
    simpa using z), List.getElem?_map, h1]
  rfl
/-- the body's word, for whatever is wanted of an exception, gives the def's -/
theorem fnD {P : Program} {w : World} {K : PySem.W.Frag} {mg : Str → Option Value} {base : Heap} {cl : Nat → Addr} {k : Nat} {x : Str} {st : Stmt} {a : Addr} {fd : FuncData} {N ps : List Str} {f : Fo} (Fn : Fun K x x st a fd) (Sc : FnScope N ps (defScope st)) (hm : mg x = some (.ref a)) (hb : Binds K fd ps []) (hN : ps.length ≤ N.length)
    (body : ∀ E : XK, FS ⟨P, w, K, mg, base, N, defScope st, k, cl, E, fun _ => true, [], .none, ""⟩ (defBody st) f) : FnD P w K mg base cl (k + 1) x (defF N ps.length f) := by
  refine ⟨a, fd, ps, hm, Fn.kp, hb, Fn.okX Sc (fun vs H Q E h => ?_) (fun cdv A outer s H vs Q E hr h => ?_)⟩
  · obtain ⟨F, G, ds, r, _, _, _, _, h1, h2, _⟩ := h
    unfold defF at h2
    split at h2
    · rename_i q; rw [h1.length, q]
    · cases h2
  · obtain ⟨F, G, ds, r, sub, frm, dis, ng, h1, h2, post⟩ := h
    unfold defF at h2
    split at h2
    · rename_i q
      obtain ⟨t, pt, sp⟩ := (body E).ex
      refine ⟨t, pt _ ⟨rfl, rfl, rfl, rfl, rfl, rfl, rfl, rfl, hr, takes_of rfl rfl rfl rfl, fun _ _ => Or.inl rfl, passes_of rfl, Or.inl rfl⟩, ?_⟩
      have s0 : S (K, []) F (L2.start N vs) G H (startD N ds) := S.start sub frm dis ng h1 (by omega)
      cases ho : f (startD N ds) with
      | none => rw [ho] at h2; cases h2
      | some o =>
        rw [ho] at h2
        refine sp F _ G H _ o s0 ho _ ?_
        cases o with
        | rt d => cases h2; exact fun σ' G' H' δ' v s' g' rv => post G' H' v g' s'.sub s'.frm s'.dis s'.ntg rv
        | nx δ' => cases h2; exact fun σ' G' H' s' g' => post G' H' _ g' s'.sub s'.frm s'.dis s'.ntg .non
        | ex c => cases h2; exact fun G' H' g' h' f' => post G' H' g' h' f'
        | bk δ' => cases h2
        | ct δ' => cases h2
    · cases h2
end FL

set_option Elab.async false
set_option linter.all false
set_option maxRecDepth 100000
set_option maxHeartbeats 2000000
/-! FL6: list comprehensions. -/
namespace FL
open PySem PySem.Spec PyProof.Rows L2
def blkSC (c : SC) (scope : Scope) : SC := { c with sc := relS scope c.sc, E := fun _ _ _ => False, st := fun x => scope.names.lookup x == some .local || scope.names.lookup x == some .cell }
theorem in_blk {c : SC} {X : Cx} {scope : Scope} (h : In c X) (s : Shared) (H : Hp) (C : Addr) (cl : List (Str × Addr)) (fp : List Addr) : In (blkSC c scope) (X.blk s H scope (compEnvC scope cl C X.env) fp) where
  P := h.P
  w := h.w
  K := h.K
  mg := h.mg
  base := h.base
  N := h.N
  sc := by show relS scope X.env.scope = relS scope c.sc; rw [h.sc]
  calm := h.calm
  room := h.room
  tk := L2.takes0
  fn := fun x hx => by
    have hx' : (scope.names.lookup x == some .local || scope.names.lookup x == some .cell) = true := hx
    rw [Bool.or_eq_true] at hx'
    rcases hx' with q | q
    · right
      show (relS scope X.env.scope).names.lookup x = some .local
      exact lookup_relS_keep (by decide) (beq_iff_eq.mp q)
    · left; exact q
  po := PassesOwn.never
  code := h.code
theorem wipe_get {σ : L2.St} {j : Nat} : ∀ {vs : List Nat}, (wipe σ vs)[j]? = if j ∈ vs then (σ[j]?).map (fun _ => none) else σ[j]?
  | [] => by simp [wipe]
  | v :: vs => by
    unfold wipe
    by_cases hv : v = j
    · subst hv
      rw [List.getElem?_set]
      simp only [if_true, List.mem_cons, true_or, wipe_length]
      split
      · rename_i hl; rw [List.getElem?_eq_getElem hl]; rfl
      · rename_i hl; rw [List.getElem?_eq_none_iff.mpr (by omega)]; rfl
    · rw [List.getElem?_set_ne hv, wipe_get (vs := vs)]
      have : (j ∈ v :: vs) ↔ j ∈ vs := by simp [Ne.symm hv]
      simp only [this]
theorem wipe_agr {σ σ' : L2.St} {is vs : List Nat} (a : Agr is (wipe σ vs) σ') (h : ∀ j ∈ is, j ∈ vs) : wipe σ' vs = wipe σ vs := by
  apply List.ext_getElem?
  intro j
  rw [wipe_get, wipe_get]
  by_cases hj : j ∈ vs
  · rw [if_pos hj, if_pos hj]
    have hl : σ'.length = σ.length := a.1.trans (wipe_length _ _)
    cases h1 : σ'[j]? with
    | none => rw [List.getElem?_eq_none_iff] at h1; rw [List.getElem?_eq_none_iff.mpr (by omega)]
    | some x =>
      obtain ⟨h2, _⟩ := List.getElem?_eq_some_iff.mp h1
      rw [List.getElem?_eq_getElem (show j < σ.length by omega)]
      rfl
  · rw [if_neg hj, if_neg hj, a.2 j fun z => hj (h j z), wipe_get, if_neg hj]
def wipeD (δ : De) : List Nat → De
  | [] => δ
  | v :: vs => (wipeD δ vs).set v .un
def restD (δ δ' : De) : List Nat → De
  | [] => δ'
  | v :: vs => (restD δ δ' vs).set v ((δ[v]?).getD .un)
theorem wipeD_len (δ : De) : ∀ vs : List Nat, (wipeD δ vs).length = δ.length
  | [] => rfl
  | v :: vs => by unfold wipeD; rw [List.length_set, wipeD_len δ vs]
theorem restD_len (δ δ' : De) : ∀ vs : List Nat, (restD δ δ' vs).length = δ'.length
  | [] => rfl
  | v :: vs => by unfold restD; rw [List.length_set, restD_len δ δ' vs]
theorem restD_get {δ δ' : De} {j : Nat} : ∀ {vs : List Nat}, (restD δ δ' vs)[j]? = if j ∈ vs then (δ'[j]?).map (fun _ => (δ[j]?).getD .un) else δ'[j]?
  | [] => by simp [restD]
  | v :: vs => by
    unfold restD
    by_cases hv : v = j
    · subst hv
      rw [List.getElem?_set]
      simp only [if_true, List.mem_cons, true_or, restD_len]
      split
      · rename_i hl; rw [List.getElem?_eq_getElem hl]; rfl
      · rename_i hl; rw [show δ'[v]? = none from List.getElem?_eq_none_iff.mpr (by omega)]; rfl
    · rw [List.getElem?_set_ne hv, restD_get (vs := vs)]
      have : (j ∈ v :: vs) ↔ j ∈ vs := by simp [Ne.symm hv]
      simp only [this]
def noOwn (δ : De) (vs : List Nat) : Bool := vs.all fun v => (ownAt δ v).isNone
section
variable {K : PySem.W.Frag} {T : List (Addr × PySem.Str)} {F G H : Hp} {σ : L2.St} {δ : De}
theorem S.wipes (s : S (K, T) F σ G H δ) : ∀ vs : List Nat, S (K, T) F (L2.wipe σ vs) G H (wipeD δ vs)
  | [] => s
  | v :: vs => (S.wipes s vs).wipe v none
theorem S.relist {D : Addr} {a b : List V} (s : S (K, T) (upd F D (.lst a)) σ G H δ) : S (K, T) (upd F D (.lst b)) σ G (upd H D (.lst b)) δ := by
  have gd : G D = none := s.dis D _ upd_same
  refine ⟨fun x o e => ?_, fun x o e => ?_, fun x o e => ?_, s.len, s.val, fun i xs e => ?_, s.inj, tabs_lst s.tab (s.frm D _ upd_same), fun x hx => ⟨?_, (s.tnf x hx).2⟩, s.ntg, s.ntf.imp_right fun z b o e => ?_⟩
  · rw [upd_ne (ne_of_none e gd)]; exact s.sub _ _ e
  · by_cases hx : x = D
    · subst hx; rw [upd_same] at e ⊢; exact e
    · rw [upd_ne hx] at e ⊢; exact s.frm x o (by rw [upd_ne hx]; exact e)
  · by_cases hx : x = D
    · subst hx; exact gd
    · rw [upd_ne hx] at e; exact s.dis x o (by rw [upd_ne hx]; exact e)
  · obtain ⟨p, vs, h1, h2, h3, h4, h5⟩ := s.own i xs e
    have np : p ≠ D := fun z => by subst z; rw [upd_same] at h5; cases h5
    rw [upd_ne np] at h5
    exact ⟨p, vs, h1, by rw [upd_ne np]; exact h2, h3, h4, by rw [upd_ne np]; exact h5⟩
  · have q := (s.tnf x hx).1
    have nx : x.1 ≠ D := fun z => by rw [z, upd_same] at q; cases q
    rw [upd_ne nx] at q ⊢
    exact q
  · by_cases hb : b = D
    · subst hb; rw [upd_same] at e; exact ⟨_, (Option.some.inj e).symm⟩
    · rw [upd_ne hb] at e; exact z b o (by rw [upd_ne hb]; exact e)
/-- the comprehension's list joins the callers' for a while -/
theorem S.enter (s : S (K, T) F σ G H δ) {D : Addr} {a : List V} (h : H D = none) : S (K, T) (upd F D (.lst a)) σ G (upd H D (.lst a)) δ := by
  have gd : G D = none := s.sub.free h
  have s1 := s.newH (o := .lst a) h
  refine ⟨s1.sub, fun x o e => ?_, fun x o e => ?_, s.len, s.val, fun i xs e => ?_, s.inj, s1.tab, fun x hx => ⟨?_, (s.tnf x hx).2⟩, s.ntg, s.ntf.imp_right fun z b o e => ?_⟩
  · by_cases hx : x = D
    · subst hx; rw [upd_same] at e ⊢; exact e
    · rw [upd_ne hx] at e; exact s1.frm x o e
  · by_cases hx : x = D
    · subst hx; exact gd
    · rw [upd_ne hx] at e; exact s.dis x o e
  · obtain ⟨p, vs, h1, h2, h3, h4, h5⟩ := s1.own i xs e
    have np : p ≠ D := fun z => by
      subst z
      obtain ⟨q, ws, e1, e2, _⟩ := s.own i xs e
      rw [h1] at e1; cases e1
      rw [h] at e2; cases e2
    exact ⟨p, vs, h1, h2, h3, h4, by rw [upd_ne np]; exact h5⟩
  · obtain ⟨ps, hp⟩ := s.tab_at hx
    rw [upd_ne (ne_of_none hp h)]
    exact (s.tnf x hx).1
  · by_cases hb : b = D
    · subst hb; rw [upd_same] at e; exact ⟨_, (Option.some.inj e).symm⟩
    · rw [upd_ne hb] at e; exact z b o e
theorem S.leave {D : Addr} {a : List V} (s : S (K, T) (upd F D (.lst a)) σ G H δ) (hf : F D = none) : S (K, T) F σ (upd G D (.lst a)) H δ := by
  have gd : G D = none := s.dis D _ upd_same
  have sg : Same G (upd G D (.lst a)) := same_upd gd
  refine ⟨fun x o e => ?_, fun x o e => ?_, fun x o e => ?_, s.len, fun i d e => ?_, fun i xs e => ?_, s.inj, s.tab, fun x hx => ?_, fun b ps e => ?_, s.ntf.imp_right fun z b o e => ?_⟩
  · by_cases hx : x = D
    · subst hx; rw [upd_same] at e; rw [← e]; exact s.frm x _ upd_same
    · rw [upd_ne hx] at e; exact s.sub x o e
  · exact s.frm x o (by rw [upd_ne (ne_of_none e hf)]; exact e)
  · rw [upd_ne (ne_of_none e hf)]; exact s.dis x o (by rw [upd_ne (ne_of_none e hf)]; exact e)
  · obtain ⟨v, h1, h2⟩ := s.val i d e
    exact ⟨v, h1, h2.mono sg⟩
  · obtain ⟨p, vs, h1, h2, h3, h4, h5⟩ := s.own i xs e
    have np : p ≠ D := fun z => by subst z; rw [upd_same] at h5; cases h5
    rw [upd_ne np] at h5
    exact ⟨p, vs, h1, h2, h3.mono sg, by rw [upd_ne np]; exact h4, h5⟩
  · have q := s.tnf x hx
    have nx : x.1 ≠ D := fun z => by rw [z, upd_same] at q; exact nomatch q.1
    rw [upd_ne nx] at q ⊢
    exact q
  · by_cases hb : b = D
    · subst hb; rw [upd_same] at e; cases e
    · rw [upd_ne hb] at e; exact s.ntg b ps e
  · by_cases hb : b = D
    · subst hb; rw [hf] at e; cases e
    · exact z b o (by rw [upd_ne hb]; exact e)
theorem S.unblock {G0 H0 : Hp} {σ0 : L2.St} {δ0 : De} {vs : List Nat} (s : S (K, T) F σ G H δ) (s0 : S (K, T) F σ0 G0 H0 δ0) (g : Same G0 G) (ag : ∀ j, j ∉ vs → σ[j]? = σ0[j]?) (hl : σ.length = σ0.length) (no : noOwn δ0 vs = true) : S (K, T) F σ0 G H (restD δ0 δ vs) := by
  have own0 : ∀ v ∈ vs, ∀ xs, δ0[v]? ≠ some (.own xs) := fun v hv xs e => by
    have := List.all_eq_true.mp no v hv
    unfold ownAt at this
    rw [e] at this
    cases this
  have back : ∀ (j : Nat) xs, (restD δ0 δ vs)[j]? = some (.own xs) → j ∉ vs ∧ δ[j]? = some (.own xs) := fun j xs e => by
    rw [restD_get] at e
    split at e
    · rename_i hj
      cases h1 : δ[j]? with
      | none => rw [h1] at e; cases e
      | some z =>
        rw [h1] at e
        simp only [Option.map_some, Option.some.injEq] at e
        cases h2 : δ0[j]? with
        | none => rw [h2] at e; cases e
        | some y =>
          rw [h2] at e
          simp only [Option.getD_some] at e
          subst e
          exact absurd h2 (own0 j hj xs)
    · rename_i hj
      exact ⟨hj, e⟩
  refine ⟨s.sub, s.frm, s.dis, by rw [restD_len, s.len, hl], fun i d e => ?_, fun i xs e => ?_, fun i j xs ys hn e1 e2 => ?_, s.tab, s.tnf, s.ntg, s.ntf⟩
  · rw [restD_get] at e
    split at e
    · cases h1 : δ[i]? with
      | none => rw [h1] at e; cases e
      | some z =>
        rw [h1] at e
        simp only [Option.map_some, Option.some.injEq] at e
        cases h2 : δ0[i]? with
        | none => rw [h2] at e; cases e
        | some y =>
          rw [h2] at e
          simp only [Option.getD_some] at e
          subst e
          obtain ⟨v, q1, q2⟩ := s0.val i d h2
          exact ⟨v, q1, q2.mono g⟩
    · rename_i hj
      obtain ⟨v, q1, q2⟩ := s.val i d e
      exact ⟨v, by rw [← ag i hj]; exact q1, q2⟩
  · obtain ⟨hj, e'⟩ := back i xs e
    obtain ⟨p, ws, q1, q2⟩ := s.own i xs e'
    exact ⟨p, ws, by rw [← ag i hj]; exact q1, q2⟩
  · obtain ⟨hi, e1'⟩ := back i xs e1
    obtain ⟨hj, e2'⟩ := back j ys e2
    rw [← ag i hi, ← ag j hj]
    exact s.inj i j xs ys hn e1' e2'
end
structure FTs (c : SC) (ifs : List Expr) (f : M Bool) : Prop where
  ex : ∃ t, (∀ X, In c X → PTs X ifs t) ∧ Sp2 c.κ c.cl c.E RepB t f
section
variable {c : SC}
theorem fts_nil : FTs c [] (pureM true) := ⟨tYes, fun _ _ => pts_nil, Sp2.pure (v := true) fun _ => rfl⟩
theorem fts_one {e : Expr} {f : M Bool} (h : FT c e f) : FTs c [e] f := by
  obtain ⟨t, p, s⟩ := h.ex
  exact ⟨t, fun X h => pts_one (p X h), s⟩
def lcD (vs : List Nat) (bd : D → De → Option De) (tt : M Bool) (fe : M D) : List D → M (List D)
  | [], δ => some (.ok [] δ)
  | x :: r, δ => if noOwn δ vs then match bd x (wipeD δ vs) with
    | none => none
    | some δ1 => match tt δ1 with
      | some (.ok true δ2) => match fe δ2 with
        | some (.ok y δ3) => match lcD vs bd tt fe r (restD δ δ3 vs) with
          | some (.ok ys δ4) => some (.ok (y :: ys) δ4)
          | _ => none
        | _ => none
      | some (.ok false δ2) => lcD vs bd tt fe r (restD δ δ2 vs)
      | _ => none
    else none
def lcM (vs : List Nat) (bd : D → De → Option De) (tt : M Bool) (fe : M D) (items : M (List D)) : M D :=
  bindM items fun ds => if ds.length < 1000000 then bindM (lcD vs bd tt fe ds) fun ys => pureM (.lst ys) else fun _ => none
theorem sp_lc {K : PySem.W.Frag} {T : List (Addr × PySem.Str)} {cl : Nat → Addr} {E : XK} {wi : TI} {g : TG} {t : TT} {te : TE} {items : M (List D)} {is vs : List Nat} {bd : D → De → Option De} {tt : M Bool} {fe : M D}
    (si : Sp2 (K, T) cl E (Walks K) wi items) (sg : ∀ F σ G H δ v d δ', S (K, T) F σ G H δ → Rep K G v d → bd d δ = some δ' → ∀ Q, (∀ σ', S (K, T) F σ' G H δ' → Agr is σ σ' → Q σ' H) → g v σ H Q)
    (st : Sp2 (K, T) cl (fun _ _ _ => False) RepB t tt) (se : Sp2 (K, T) cl (fun _ _ _ => False) (Rep K) te fe) (his : ∀ i ∈ is, i ∈ vs) :
    Sp2 (K, T) cl E (Rep K) (tLc wi g t te vs) (lcM vs bd tt fe items) := by
  intro F σ G H δ r s e Q p
  refine si.step s e p fun G1 H1 δ1 J ds s1 g1 W e1 p1 => ?_
  split at e1
  · rename_i hlen
    intro D hD
    have fD : F D = none := s1.frm.free hD
    -- the end's word
    cases hlc : lcD vs bd tt fe ds δ1 with
    | none => unfold bindM at e1; rw [hlc] at e1; cases e1
    | some rr =>
      cases rr with
      | ex k =>
        exfalso
        -- a comprehension hands no exception on
        have : ∀ (ds : List FL.D) δ k, lcD vs bd tt fe ds δ ≠ some (.ex k) := by
          intro ds
          induction ds with
          | nil => intro δ k h; cases h
          | cons x r ih =>
            intro δ k h
            rw [lcD] at h
            repeat' split at h
            all_goals first | cases h | exact ih _ _ h
        exact this _ _ _ hlc
      | ok ysA δf =>
        rw [bindM_ok hlc] at e1
        cases e1
        refine ⟨fun i m H => m = ds.length - i ∧ i ≤ ds.length ∧ ∃ G2 δ2 accV accD ys, Same G1 G2 ∧ S (K, T) (upd F D (.lst accV)) σ G2 H δ2 ∧ RepL K G2 accV accD ∧ accD.length ≤ i ∧ lcD vs bd tt fe (ds.drop i) δ2 = some (.ok ys δf) ∧ ysA = accD ++ ys,
          ⟨ds.length, by simp, Nat.zero_le _, G1, δ1, [], [], ysA, Same.refl _, s1.enter hD, .nil, Nat.zero_le _, hlc, rfl⟩, ?_⟩
        rintro i m H2 ⟨rfl, hi, G2, δ2, accV, accD, ys, g2, s2, ra, hla, e2, ey⟩
        by_cases hl : i < ds.length
        · have hd : ds[i]? = some ds[i] := List.getElem?_eq_getElem hl
          rw [List.drop_eq_getElem_cons hl, lcD] at e2
          split at e2
          · rename_i hno
            refine .inr ⟨W.go _ _ σ G2 H2 δ2 i g2 s2 hl, fun H' => ∃ G5 δ5 accV' accD' ys', Same G1 G5 ∧ S (K, T) (upd F D (.lst accV')) σ G5 H' δ5 ∧ RepL K G5 accV' accD' ∧ accD'.length ≤ i + 1 ∧ lcD vs bd tt fe (ds.drop (i + 1)) δ5 = some (.ok ys' δf) ∧ ysA = accD' ++ ys',
              fun H' z => ⟨ds.length - (i + 1), by omega, rfl, hl, z⟩, fun x H3 hy => ?_⟩
            obtain ⟨G3, s3, g3, rx⟩ := W.yld _ _ (wipe σ vs) G2 H2 (wipeD δ2 vs) i x H3 _ g2 (s2.wipes vs) hy hd
            cases hbd : bd ds[i] (wipeD δ2 vs) with
            | none => rw [hbd] at e2; cases e2
            | some δ3 =>
              rw [hbd] at e2
              dsimp only at e2
              refine sg _ (wipe σ vs) G3 H3 _ x _ δ3 s3 rx hbd _ fun σ3 s4 ag => ⟨wipe_agr ag his, ?_⟩
              have g23 : Same G2 G3 := g3
              have agr3 : ∀ j, j ∉ vs → σ3[j]? = σ[j]? := fun j hj => by
                rw [ag.2 j fun z => hj (his j z), wipe_get, if_neg hj]
              have len3 : σ3.length = σ.length := ag.1.trans (wipe_length _ _)
              cases ht : tt δ3 with
              | none => rw [ht] at e2; cases e2
              | some rt =>
                rw [ht] at e2
                cases rt with
                | ex k => cases e2
                | ok b δ4 =>
                  refine st _ σ3 G3 H3 δ3 _ s4 ht _ fun G4 H4 b' s5 g4 rb => ?_
                  have eb : b' = b := rb
                  subst eb
                  cases b' with
                  | false =>
                    rw [if_neg Bool.false_ne_true]
                    dsimp only at e2
                    exact ⟨G4, _, accV, accD, ys, g2.trans (g23.trans g4), s5.unblock s2 (g23.trans g4) agr3 len3 hno, ra.mono (g23.trans g4), by omega, e2, ey⟩
                  | true =>
                    rw [if_pos rfl]
                    dsimp only at e2
                    cases hf : fe δ4 with
                    | none => rw [hf] at e2; cases e2
                    | some rf =>
                      rw [hf] at e2
                      cases rf with
                      | ex k => cases e2
                      | ok y δ5 =>
                        dsimp only at e2
                        refine se _ σ3 G4 H4 δ4 _ s5 hf _ fun G5 H5 v s6 g5 ry => ?_
                        have g25 : Same G2 G5 := g23.trans (g4.trans g5)
                        cases hr : lcD vs bd tt fe (ds.drop (i + 1)) (restD δ2 δ5 vs) with
                        | none => rw [hr] at e2; cases e2
                        | some rr2 =>
                          rw [hr] at e2
                          cases rr2 with
                          | ex k => cases e2
                          | ok ys2 δ6 =>
                            cases e2
                            refine ⟨accV, s6.frm D _ upd_same, by rw [ra.length]; rw [sizeLine_eq]; omega, G5, restD δ2 δ5 vs, accV ++ [v], accD ++ [y], ys2, g2.trans g25, (s6.unblock s2 g25 agr3 len3 hno).relist, (ra.mono g25).append (.cons ry .nil), by rw [List.length_append]; simp; omega, hr, by rw [ey, List.append_assoc]; rfl⟩
          · cases e2
        · have ei : i = ds.length := by omega
          subst ei
          rw [List.drop_length] at e2
          cases e2
          have gd : G2 D = none := s2.dis D _ upd_same
          refine .inl ⟨W.stop _ _ σ G2 H2 _ _ g2 s2 (Nat.le_refl _), ?_⟩
          rw [List.append_nil] at ey
          subst ey
          exact p1 (upd G2 D (.lst accV)) H2 _ (s2.leave fD) (g2.trans (same_upd gd)) (.lst upd_same (ra.mono (same_upd gd)))
  · cases e1
theorem fe_lc {elt tg iter : Expr} {ifs : List Expr} {scope : Scope} (own : List (Str × Nat)) {pos : Pos} {items : M (List D)} {is : List Nat} {bd : D → De → Option De} {tt : M Bool} {fe : M D} (nd : c.N.Nodup) (hi : FI c tg iter items) (ok : blkC c.N c.sc scope own = true)
    (hg : FG (blkSC c scope) tg is bd) (ht : FTs (blkSC c scope) ifs tt) (he : FE (blkSC c scope) elt fe) (his : ∀ i ∈ is, i ∈ own.map (·.2)) (hs : ∀ (env : Env) x, foldedSetIterable iter env x = pure x := by intro _ _; rfl) :
    FE c (.ListComp elt [⟨tg, iter, ifs, 0⟩] scope pos) (lcM (own.map (·.2)) bd tt fe items) := by
  obtain ⟨wi, pi, si⟩ := hi.ex
  obtain ⟨g, pg, sg⟩ := hg.ex
  obtain ⟨t, pt, st⟩ := ht.ex
  obtain ⟨te, pe, se⟩ := he.ex
  exact ⟨_, fun X h => pe_lc h.calm (by rw [h.N]; exact nd) (pi X h) (by rw [h.N, h.sc]; exact blkOk_by ok) (fun s H C cl fp => pg _ (in_blk h s H C cl fp)) (fun s H C cl fp => pt _ (in_blk h s H C cl fp)) (fun s H C cl fp => pe _ (in_blk h s H C cl fp)) (hs _), sp_lc si sg st se his⟩
/-- y = [..] on one line -/
theorem fs_setLc (i : Nat) {y : Str} {py : Pos} {elt tg iter : Expr} {ifs : List Expr} {scope : Scope} (own : List (Str × Nat)) {pos spos : Pos} {items : M (List D)} {is : List Nat} {bd : D → De → Option De} {tt : M Bool} {fe : M D} (nd : c.N.Nodup) (hi : FI c tg iter items) (ok : blkC c.N c.sc scope own = true)
    (hg : FG (blkSC c scope) tg is bd) (ht : FTs (blkSC c scope) ifs tt) (he : FE (blkSC c scope) elt fe) (his : ∀ i ∈ is, i ∈ own.map (·.2))
    (hy : c.N[i]? = some y := by rfl) (hyl : c.sc.names.lookup y = some .local := by rfl)
    (hsw : ∀ env : Env, env.scope = c.sc → swapsWith (.ListComp elt [⟨tg, iter, ifs, 0⟩] scope pos) (some (.Name y py)) spos.line env = pure true)
    (hs : ∀ (env : Env) x, foldedSetIterable iter env x = pure x := by intro _ _; rfl) :
    FS1 c (.Assign [.Name y py] (.ListComp elt [⟨tg, iter, ifs, 0⟩] scope pos) spos) (thenS (lcM (own.map (·.2)) bd tt fe items) fun d δ => some (.nx (δ.set i (.val d)))) := by
  obtain ⟨wi, pi, si⟩ := hi.ex
  obtain ⟨g, pg, sg⟩ := hg.ex
  obtain ⟨t, pt, st⟩ := ht.ex
  obtain ⟨te, pe, se⟩ := he.ex
  refine ⟨tAsg (tLc wi g t te (own.map (·.2))) (gName i), fun X h => ?_, fun F σ G H δ o s e Dn p => ?_⟩
  · exact ps_setLc h.calm (by rw [h.N]; exact nd) (by rw [h.N]; exact hy) (by rw [h.sc]; exact hyl) (hsw _ h.sc) (pi X h) (by rw [h.N, h.sc]; exact blkOk_by ok) (fun s H C cl fp => pg _ (in_blk h s H C cl fp)) (fun s H C cl fp => pt _ (in_blk h s H C cl fp)) (fun s H C cl fp => pe _ (in_blk h s H C cl fp)) (hs _)
  · refine (sp_lc (cl := c.cl) (E := c.E) si sg st se his).stepS s e p fun G1 H1 δ1 v d s1 g1 rx e1 p1 => ?_
    cases e1
    exact p1 _ G1 H1 (s1.store i rx) (Same.refl _)
end
end FL

set_option Elab.async false
set_option linter.all false
set_option maxRecDepth 100000
set_option maxHeartbeats 2000000
/-! FL7: max with a default; the law's dice. -/
namespace FL
open PySem PySem.Spec PyProof.Rows L2
theorem foldl_max : ∀ (n : Int) (ns : List Int), ns.foldl max n = maxL (n :: ns)
  | n, [] => rfl
  | n, m :: r => by
    rw [List.foldl_cons, foldl_max (max n m) r]
    have key : ∀ (l : List Int) (a b : Int), maxL (max a b :: l) = maxL (a :: b :: l) := by
      intro l a b
      apply Int.le_antisymm
      · have := maxL_mem (l := max a b :: l) (by simp)
        rcases List.mem_cons.mp this with h | h
        · rw [h]
          rcases Int.le_total a b with q | q
          · rw [Int.max_eq_right q]; exact maxL_le (by simp)
          · rw [Int.max_eq_left q]; exact maxL_le (by simp)
        · exact maxL_le (by simp [h])
      · have := maxL_mem (l := a :: b :: l) (by simp)
        rcases List.mem_cons.mp this with h | h
        · rw [h]; exact Int.le_trans (Int.le_max_left a b) (maxL_le (by simp))
        · rcases List.mem_cons.mp h with h | h
          · rw [h]; exact Int.le_trans (Int.le_max_right a b) (maxL_le (by simp))
          · exact maxL_le (by simp [h])
    exact key r n m
def rMaxDf (K : PySem.W.Frag) : List V → List V → Hp → VK → Prop := fun xs zs H Q => ∃ (a : Addr) (ns : List Int) (z : V), xs = [.ref a] ∧ SqL K H a (ns.map V.int) ∧ zs = [z] ∧ (ns = [] → Q z H) ∧ (ns ≠ [] → Q (.int (maxL ns)) H)
theorem intsAre_reads {h : Heap} : ∀ {us : List Value} {ns : List Int}, IntsAre us ns → ReadsAll h us (ns.map .int) []
  | _, _, .nil => .nil
  | _, _, .cons n t r => by
    have := ReadsAll.cons (Reads.int (h := h) n t) (intsAre_reads r)
    simpa using this
theorem call_maxDf {X : Cx} (hc : X.calm = true) (hu : X.A.units + 64 < cLine) : CallRK X (.builtin "max") [("default" : Str)] (rMaxDf X.K) := by
  intro pins s σ H xs zs us ws Q I rx rz q
  obtain ⟨a, ns, z, rfl, hs, rfl, q0, q1⟩ := q
  obtain ⟨its, rv, ⟨o, n, ho, hcl, hdi, hda⟩, hz⟩ := I.list hs
  obtain ⟨u, rfl, ru⟩ := Vals.one rx
  obtain ⟨wv, rfl, rw⟩ := Vals.one rz
  cases ru
  have hl : s.heap.IsList a its.toArray := ⟨o, ho, hcl, n, hda⟩
  have hi := Vals.ints rv
  show wpAny _ _ (call (.builtin "max") [.ref a] [(Str.ofString "default", wv)]) _ _ _
  refine PySem.W.max_list_default (xs := ns.map .int) (as := []) (I.ok.hd hc) hl (intsAre_reads hi) ⟨?_, ?_⟩ ?_ ?_ ?_
  · intro x hx y hy
    obtain ⟨i, _, rfl⟩ := List.mem_map.mp hx
    obtain ⟨j, _, rfl⟩ := List.mem_map.mp hy
    rfl
  · intro x hx
    obtain ⟨i, _, rfl⟩ := List.mem_map.mp hx
    intro z; cases z
  · rw [PySem.W.depth_ints]; omega
  · intro e h' tk hk
    have : ns = [] := by simpa using e
    exact ⟨z, H, I.kept hk, rw, q0 this⟩
  · intro y ys i v h' tk bs e hv r hk
    cases ns with
    | nil => cases e
    | cons m ms =>
      rw [List.map_cons] at e
      cases e
      rw [PySem.W.maxD_ints, foldl_max] at r
      cases r
      exact ⟨.int (maxL (m :: ms)), H, I.kept hk, ⟨_, rfl⟩, q1 (by simp)⟩
section
variable {c : SC}
def maxDfM (f g : M D) : M D := bindM f fun d => bindM g fun e => match d with
  | .lst ds => match intsOf ds with
    | some [] => pureM e
    | some (n :: r) => pureM (.int (maxL (n :: r)))
    | none => fun _ => none
  | _ => fun _ => none
theorem fe_maxDf {p pos kp : Pos} {e d : Expr} {f g : M D} (hm : c.mg "max" = none) (ha : FE c e f) (hd : FE c d g) (hg : Gb c "max" := by rfl)
    (hs : ∀ env : Env, starEach [e] env = (false, eval e env) :: starEach [] env := by intro _; rfl)
    (he : ∀ env : Env, backTo pos (starEach [e] env) = (false, eval e env) :: backTo pos (starEach [] env) := by intro _; rfl) (hpl : ∀ env : Env, (backTo pos (starEach [e] env)).any (·.1) = false := by intro _; rfl)
    (hall : ∀ env : Env, (backToKw pos (keywordEach [⟨some "default", d, kp⟩] env)).all (·.1.isSome) = true := by intro _; rfl) (hnone : ∀ env : Env, (backToKw pos (keywordEach [⟨some "default", d, kp⟩] env)).any (·.1.isNone) = false := by intro _; rfl)
    (hks : ∀ env : Env, (backToKw pos (keywordEach [⟨some "default", d, kp⟩] env)).filterMap (·.1) = [("default" : Str)] := by intro _; rfl) :
    FE c (.Call (.Name "max" p) [e] [⟨some "default", d, kp⟩] pos) (maxDfM f g) := by
  obtain ⟨ta, pa, sa⟩ := ha.ex
  obtain ⟨td, pd, sd⟩ := hd.ex
  refine ⟨tCKw (rMaxDf c.K) (tCons ta tNil) (tCons td tNil), fun X h => ?_, fun F σ G H δ r s e Q p => ?_⟩
  · have q := call_maxDf (X := X) h.calm h.units
    rw [h.K] at q
    exact pe_callBK q (show X.env.scope.names.lookup _ = _ by rw [h.sc]; exact hg) (by rw [h.mg]; exact hm) (by first | exact PyProof.Rows.boot_max | decide +kernel) (pa_cons (pa X h) pa_nil (hs _)) (pk_cons (pd X h) pk_nil) (by decide) (by decide) (he _) (hpl _) (hall _) (hnone _) (hks _)
  · refine sa.step s e p fun G1 H1 δ1 x d s1 g1 rx e1 p1 => ?_
    refine sd.step s1 e1 p1 fun G2 H2 δ2 y e' s2 g2 ry e2 p2 => ?_
    cases d <;> try (cases e2)
    rename_i ds
    dsimp only at e2
    have rx2 := rx.mono g2
    cases rx2 with
    | lst h1 h2 =>
      cases hi : intsOf ds with
      | none => rw [hi] at e2; cases e2
      | some ns =>
        rw [hi] at e2
        rw [intsOf_some hi] at h2
        have ev := h2.ints'
        subst ev
        refine ⟨_, ns, y, rfl, .of (s2.sub _ _ h1), rfl, fun hn => ?_, fun hn => ?_⟩
        · subst hn
          cases e2
          exact p2 G2 H2 _ s2 (Same.refl _) ry
        · cases ns with
          | nil => exact absurd rfl hn
          | cons n r => cases e2; exact p2 G2 H2 _ s2 (Same.refl _) (.int _)
end

/-! ### the law's dice -/
def rollF (x y z m : Int) : Int × Int × Int × Int :=
  if z = 2 ∨ (z = 1 ∧ 0 < x) then (x % m, x / m, y, z)
  else ((((x * 48271 + y * 69621 + 11) % 2147483647) / 7 + (x * 48271 + y * 69621 + 11) % 2147483647) % m, (x * 48271 + y * 69621 + 11) % 2147483647, y + 1, 0)
theorem rollF_lo (x y z m : Int) (h : 0 < m) : 0 ≤ (rollF x y z m).1 := by
  unfold rollF
  split
  · exact Int.emod_nonneg _ (by omega)
  · exact Int.emod_nonneg _ (by omega)
theorem rollF_hi (x y z m : Int) (h : 0 < m) : (rollF x y z m).1 < m := by
  unfold rollF
  split
  · exact Int.emod_lt_of_pos _ h
  · exact Int.emod_lt_of_pos _ h
def ints3 (x y z : Int) : HO := .lst [.int x, .int y, .int z]
def spRoll : Sp := fun vs H Q _ => ∃ (p : Addr) (x y z m : Int), vs = [.ref p, .int m] ∧ H p = some (ints3 x y z) ∧ 0 < m ∧ m < 1073741824 ∧
  Q (.int (rollF x y z m).1) (upd H p (ints3 (rollF x y z m).2.1 (rollF x y z m).2.2.1 (rollF x y z m).2.2.2))
end FL

set_option Elab.async false
set_option linter.all false
set_option maxRecDepth 100000
set_option maxHeartbeats 2000000
/-! FL8: the law's own words: a roll of the dice; a lambda told. -/
namespace FL
open PySem PySem.Spec PyProof.Rows L2
/-! ### _law_roll(dice, e) -/
structure RollD (P : Program) (w : World) (K : PySem.W.Frag) (mg : Str → Option Value) (base : Heap) : Prop where
  ex : ∃ (a : Addr) (fd : FuncData), mg "_law_roll" = some (.ref a) ∧ PySem.W.keepIn K (.ref a) = true ∧ Binds K fd ["dice", "many"] [] ∧ FnOk P w K mg base (L2.CX P w) 1 a fd ["dice", "many"] spRoll
def rollK (i : Nat) (m : D) : M D := fun δ => match m, ownAt δ i with
  | .int m, some [.int x, .int y, .int z] => if 0 < m ∧ m < 1073741824 then some (.ok (.int (rollF x y z m).1) (δ.set i (.own [.int (rollF x y z m).2.1, .int (rollF x y z m).2.2.1, .int (rollF x y z m).2.2.2]))) else none
  | _, _ => none
def rollM (i : Nat) (f : M D) : M D := fun δ => match ownAt δ i with
  | none => none
  | some _ => bindM f (rollK i) δ
section
variable {c : SC}
theorem fe_roll (i : Nat) {x : Str} {e : Expr} {f : M D} {p p1 pos : Pos} (Rd : RollD c.P c.w c.K c.mg c.base) (he : FE c e f) (hk : Nat.ble 1 c.k = true := by rfl) (hN : c.N[i]? = some x := by rfl) (hv : Vis c.sc x := by first | exact Or.inl rfl | exact Or.inr (Or.inl rfl) | exact Or.inr (Or.inr rfl))
    (hg : Gb c "_law_roll" := by rfl) (hd : (x == ("__debug__" : Str)) = false := by decide) (hcd : (x == ("__classdict__" : Str)) = false := by decide)
    (h1 : ∀ env : Env, starEach [.Name x p1, e] env = (false, eval (.Name x p1) env) :: starEach [e] env := by intro _; rfl) (h2 : ∀ env : Env, starEach [e] env = (false, eval e env) :: starEach [] env := by intro _; rfl)
    (hpl : ∀ env : Env, (backTo pos (starEach [e] env)).any (·.1) = false := by intro _; rfl) :
    FE c (.Call (.Name "_law_roll" p) [.Name x p1, e] [] pos) (rollM i f) := by
  obtain ⟨t, pa, sa⟩ := he.ex
  obtain ⟨a, fd, q1, q2, q3, q4⟩ := Rd.ex
  refine ⟨tCallS spRoll (WE fun cls d _ H => c.E cls d H) (tCons (tVar i) (tCons t tNil)), fun X h => ?_, fun F σ G H δ r s e Q p => ?_⟩
  · have q4' : FnOk X.prog X.w X.K X.mg X.base (L2.CX X.prog X.w) 1 a fd ["dice", "many"] spRoll := by rw [h.P, h.w, h.K, h.mg, h.base]; exact q4
    exact pe_callS q4' (h.room.mono (Nat.le_of_ble_eq_true hk)) (show X.env.scope.names.lookup _ = _ by rw [h.sc]; exact hg) (by rw [h.mg]; exact q1) (by rw [h.K]; exact q2) (by rw [h.K]; exact q3) (fun σ => passAt h.tk σ) (pa_cons (pe_var (i := i) (x := x) (pos := p1) (by rw [h.N]; exact hN) (by rw [h.sc]; exact hv) hd hcd) (pa_cons (pa X h) pa_nil (h2 _)) (h1 _)) (by decide) (h1 _) (hpl _)
  · unfold rollM at e
    cases h0 : ownAt δ i with
    | none => rw [h0] at e; cases e
    | some xs0 =>
      rw [h0] at e
      dsimp only at e
      obtain ⟨q, vs, e1, e2, e3, e4, e5⟩ := s.own i xs0 (ownAt_some h0)
      refine ⟨_, e1, ?_⟩
      refine sa.step s e p fun G1 H1 δ1 v d s1 g1 rx e1' p1 => ?_
      unfold rollK at e1'
      split at e1'
      · rename_i m x y z ho
        split at e1'
        · rename_i hm
          cases e1'
          cases rx
          obtain ⟨q', ws, f1, f2, f3, f4, f5⟩ := s1.own i _ (ownAt_some ho)
          rw [e1] at f1
          cases f1
          have ew : ws = [V.int x, V.int y, V.int z] := RepL.ints' (ns := [x, y, z]) f3
          subst ew
          refine ⟨q, x, y, z, m, rfl, f2, hm.1, hm.2, ?_⟩
          exact p1 G1 _ _ (s1.setOwn (ownAt_some ho) e1 (RepL.ints [(rollF x y z m).2.1, (rollF x y z m).2.2.1, (rollF x y z m).2.2.2])) (Same.refl _) (.int _)
        · cases e1'
      · cases e1'

/-! ### _law_told(lambda: e) -/
def hideOwn (δ : De) : De := δ.map fun
  | .own _ => .un
  | x => x
theorem S.hide {K : PySem.W.Frag} {T : List (Addr × PySem.Str)} {F G H : Hp} {σ : L2.St} {δ : De} (s : S (K, T) F σ G H δ) : S (K, []) (besides G H) σ G H (hideOwn δ) := by
  have bs : ∀ b o, besides G H b = some o → G b = none ∧ H b = some o := fun b o e => by
    unfold besides at e
    split at e
    · cases e
    · rename_i q; exact ⟨q, e⟩
  have no : ∀ (i : Nat) xs, (hideOwn δ)[i]? ≠ some (.own xs) := fun i xs e => by
    unfold hideOwn at e
    rw [List.getElem?_map] at e
    cases h : δ[i]? with
    | none => rw [h] at e; cases e
    | some y => rw [h] at e; cases y <;> cases e
  refine ⟨s.sub, fun b o e => (bs b o e).2, fun b o e => (bs b o e).1, by unfold hideOwn; rw [List.length_map]; exact s.len, fun i d e => ?_, fun i xs e => absurd e (no i xs), fun i j xs ys _ e => absurd e (no i xs), fun x hx => absurd (show x ∈ ([] : List (Addr × PySem.Str)) from hx) (by simp), fun x hx => absurd (show x ∈ ([] : List (Addr × PySem.Str)) from hx) (by simp), s.ntg, .inl rfl⟩
  unfold hideOwn at e
  rw [List.getElem?_map] at e
  cases h : δ[i]? with
  | none => rw [h] at e; cases e
  | some y =>
    rw [h] at e
    cases y with
    | un => cases e
    | own xs => cases e
    | val d' => cases e; exact s.val i d h
theorem S.extN {K : PySem.W.Frag} {T : List (Addr × PySem.Str)} {F G H H1 : Hp} {σ : L2.St} {δ : De} (s : S (K, T) F σ G H δ) (hT : T ≠ []) (e : LamX.ExtN H H1) (t : LamX.Tabs T H1) : S (K, T) F σ G H1 δ := by
  have nf : ∀ b ps, F b ≠ some (.tbl ps) := fun b ps z => by
    obtain ⟨xs, e⟩ := s.ntf.resolve_left hT b _ z
    cases e
  refine ⟨fun b o q => e b o (s.sub _ _ q) fun ps z => s.ntg b ps (by rw [q, z]), fun b o q => e b o (s.frm _ _ q) fun ps z => nf b ps (by rw [q, z]), s.dis, s.len, s.val, fun i xs q => ?_, s.inj, t, s.tnf, s.ntg, s.ntf⟩
  obtain ⟨p, vs, h1, h2, h3, h4, h5⟩ := s.own i xs q
  exact ⟨p, vs, h1, e _ _ h2 fun ps z => (by cases z), h3, h4, h5⟩
/-- what the clauses make of an exception -/
def Ech (K : PySem.W.Frag) (Q : VK) : List (Addr × Str) → XK
  | [] => fun _ _ _ => False
  | (C, n) :: r => fun cls d H' => ∃ b, PySem.W.exmOne K cls (.ref C) = some b ∧ (b = true → Q (.str n) H') ∧ (b = false → Ech K Q r cls d H')
def TTm (K : PySem.W.Frag) (l : List (Addr × Str)) : (XK → Hp → VK → Prop) → Hp → VK → Prop := fun tl H Q => tl (Ech K Q l) H Q
inductive HdT (mg : Str → Option Value) (sg : Scope) : List ExceptHandler → List (Addr × Str) → Prop
  | nil : HdT mg sg [] []
  | cons {e ret : Str} {C : Addr} {j : Nat} {p4 p5 p6 p7 : Pos} {hds : List ExceptHandler} {l : List (Addr × Str)} (h1 : sg.names.lookup e = some .globalImplicit) (h2 : mg e = some (.ref C)) (h3 : (e == ("__debug__" : Str)) = false) (r : HdT mg sg hds l) :
      HdT mg sg (.ExceptHandler (some (.Name e p4)) none [.Return (some (.Constant (.str ret) j p5)) p6] p7 :: hds) ((C, ret) :: l)
def tsOf (l : List (Addr × Str)) : List (Value × (Addr → Value → Option Addr → TS)) := l.map fun p => (.ref p.1, fun _ _ _ => tRet (tC (.str p.2)))
theorem hds_ok {X : Cx} : ∀ {hds : List ExceptHandler} {l : List (Addr × Str)}, HdT X.mg X.env.scope hds l → HdsOk X hds (tsOf l)
  | _, _, .nil => .nil
  | _, _, .cons h1 h2 h3 r => .cons ⟨h1, h3, .inl h2⟩ (fun a oe cls d pn _ _ => pss_one (ps_ret pe_str)) (hds_ok r)
theorem ech_many {K : PySem.W.Frag} {Wout : WX} {Dn : Ends} {cls : Value} {d : Option Addr} {σ : L2.St} {H : Hp} : ∀ {l : List (Addr × Str)}, Ech K Dn.rt l cls d H → wMany K Wout Dn (tsOf l) cls d σ H
  | [], h => h.elim
  | (C, n) :: r, ⟨b, e1, e2, e3⟩ => ⟨b, e1, fun hb a _ => e2 hb, fun hb => ech_many (e3 hb)⟩
theorem gives_many {X : Cx} {Ng : List Str} {x a q : Str} {sg : Scope} {g : Addr} {cdg : Value} {p1 p2 p3 p8 : Pos} {h₀ : ExceptHandler} {hds : List ExceptHandler} {l : List (Addr × Str)} (hh : HdT X.mg sg (h₀ :: hds) l) (h0 : ∀ f : Addr, (L2.start Ng [V.ref f])[0]? = some (some (V.ref f))) :
    LamX.GivesTo X Ng x sg g cdg [.Try [.Return (some (.Call (.Name a p1) [] [] p2)) p3] (h₀ :: hds) [] [] p8] a q (TTm X.K l) := by
  intro f c' s H Q tl act hc h
  refine ⟨_, pss_one (ps_try_many (X := (cxOf C8.CX0 X.prog X.w X.K X.mg X.base Ng x sg g cdg X.A X.stack s H C8.E0).nox) (l := tsOf l) (Wout := fun _ _ _ _ => False)
      (tb := fun W D σ H => ∃ Ec : XK, (∀ cls d σ' H', Ec cls d H' → W cls d σ' H') ∧ σ[0]? = some (some (.ref f)) ∧ H c' = some (LamX.CodeO c' q) ∧ tl Ec H D.rt)
      rfl rfl L2.takes0 (fun W pn xe tk _ => ?_) (hds_ok hh)), ?_⟩
  · refine ⟨fun pins s' σ H' D I h' => ?_⟩
    obtain ⟨Ec, hW, h1, h2, h3⟩ := h'
    have hp := act W pn xe Ec p1 p2 tk hW
    have hq := pss_one (ps_ret (pos := p3) hp)
    exact hq.run pins s' σ H' D I ⟨h1, h2, h3⟩
  · exact ⟨Ech X.K Q l, fun cls d σ' H' z => ech_many (Dn := { nx := fun _ H' => Q .non H', rt := Q }) z, h0 f, hc, h⟩
/-- the def _law_told, and how its clauses tell the classes apart; nl: the classes' numbers and words -/
structure ToldD (P : Program) (w : World) (K : PySem.W.Frag) (mg : Str → Option Value) (base : Heap) (cl : Nat → Addr) (nl : List (Nat × Str)) : Prop where
  ex : ∃ (g : Addr) (sg : Scope) (Ng : List Str) (pg : Arguments) (dV kV doc pm cdv ct oc : Value) (an od : Option Addr) (osl : Array (Option Value)) (p1 p2 p3 p8 : Pos) (h₀ : ExceptHandler) (hds : List ExceptHandler),
    mg "_law_told" = some (.ref g) ∧ PySem.W.keepIn K (.ref g) = true ∧ K.lookup g = some ⟨oc, od, .func (PySem.W.fnOf "_law_told" "_law_told" pg [.Try [.Return (some (.Call (.Name "what" p1) [] [] p2)) p3] (h₀ :: hds) [] [] p8] sg dV kV doc pm an cdv ct), osl⟩ ∧
      PySem.W.codeIn K cdv "_law_told" = true ∧ L2.Binds K (PySem.W.fnOf "_law_told" "_law_told" pg [.Try [.Return (some (.Call (.Name "what" p1) [] [] p2)) p3] (h₀ :: hds) [] [] p8] sg dV kV doc pm an cdv ct) ["what"] [] ∧
      FnScope Ng ["what"] sg ∧ Ng[0]? = some ("what" : Str) ∧ Vis sg "what" ∧ HdT mg sg (h₀ :: hds) (nl.map fun p => (cl p.1, p.2)) ∧ (∀ f : Addr, (L2.start Ng [V.ref f])[0]? = some (some (V.ref f)))
  exm : ∀ i j, i ∈ nl.map (·.1) → j ∈ nl.map (·.1) → PySem.W.exmOne K (.ref (cl i)) (.ref (cl j)) = some (i == j)
def lamSC (c : SC) (scope : Scope) (k : Nat) (E : XK) : SC := { c with sc := scope, k := k, E := E, st := fun _ => false, T := [], code := .none, qual := "" }
theorem in_lam {c : SC} {X : Cx} {scope : Scope} {k : Nat} {E : XK} (h : In c X) (A : Around) (outer : List Env) (s : Shared) (H : Hp) (f c' : Addr) (hr : Room k (A.deeper (LamX.lamEnv X scope s.heap.objs.size f c'))) : In (lamSC c scope k E) (LamX.lamCx X A outer s H E scope f c') where
  P := h.P
  w := h.w
  K := h.K
  mg := h.mg
  base := h.base
  N := h.N
  sc := rfl
  calm := rfl
  room := hr
  tk := takes_of rfl rfl rfl rfl
  fn := fun x hx => by cases hx
  po := passes_of rfl
  code := .inl rfl
def toldName (nl : List (Nat × Str)) (k : Nat) : Option Str := (nl.find? fun p => p.1 == k).map (·.2)
def toldM (nl : List (Nat × Str)) (f : M D) : M D := fun δ => match f (hideOwn δ) with
  | none => none
  | some (.ok d _) => some (.ok d δ)
  | some (.ex k) => (toldName nl k).map fun n => .ok (.str n) δ
theorem ech_of {K : PySem.W.Frag} {Q : VK} {cl : Nat → Addr} {k : Nat} {d : Option Addr} {H : Hp} : ∀ {nl : List (Nat × Str)} {n : Str}, toldName nl k = some n → (∀ j ∈ nl.map (·.1), PySem.W.exmOne K (.ref (cl k)) (.ref (cl j)) = some (k == j)) → Q (.str n) H → Ech K Q (nl.map fun p => (cl p.1, p.2)) (.ref (cl k)) d H
  | [], n, e, _, _ => by cases e
  | (j, m) :: r, n, e, hx, q => by
    refine ⟨k == j, hx j (by simp), fun hb => ?_, fun hb => ?_⟩
    · have : k = j := beq_iff_eq.mp hb
      subst this
      unfold toldName at e
      rw [List.find?_cons_of_pos (by simp)] at e
      cases e
      exact q
    · refine ech_of (n := n) ?_ (fun i hi => hx i (by simp only [List.map_cons, List.mem_cons]; exact .inr hi)) q
      unfold toldName at e ⊢
      rw [List.find?_cons_of_neg] at e
      · exact e
      · intro z
        have : j = k := by simpa using z
        rw [this] at hb
        simp at hb
theorem toldName_mem {nl : List (Nat × Str)} {k : Nat} {n : Str} (e : toldName nl k = some n) : k ∈ nl.map (·.1) := by
  unfold toldName at e
  cases h : nl.find? fun p => p.1 == k with
  | none => rw [h] at e; cases e
  | some p =>
    have h1 := List.find?_some h
    have h2 := List.mem_of_find?_eq_some h
    have : p.1 = k := by simpa using h1
    exact List.mem_map.mpr ⟨p, h2, this⟩
/-- where lambdas are made: the maker's code object and its table -/
structure LamD (c : SC) (C P : Addr) : Prop where
  code : c.code = .ref C
  T : c.T = [(P, c.qual ++ "<lambda>")]
  tb : LamX.TabB c.base c.mg C P
theorem fe_told (k : Nat) {C Pt : Addr} {nl : List (Nat × Str)} {params : Arguments} {body : Expr} {scope : Scope} {f : M D} {p lpos pos : Pos} (Td : ToldD c.P c.w c.K c.mg c.base c.cl nl) (L : LamD c C Pt) (hb : ∀ E, FE (lamSC c scope k E) body f)
    (hk : Nat.ble (k + 2) c.k = true := by rfl) (hL : LamX.lamSB c.sc scope = true := by kernel_rfl) (hg : Gb c "_law_told" := by rfl) (hdef : ∀ env : Env, defaultsOf params env = ([], []) := by intro _; rfl)
    (hbind : ∀ (q : Str) (cl : List (Str × Addr)) (pm cv ctv : Value), bindArgs (PySem.W.kla_fn "<lambda>" q params body scope cl pm cv ctv) ⟨[], []⟩ = pure [] := by intros; rfl) :
    FE c (.Call (.Name "_law_told" p) [.Lambda params body scope lpos] [] pos) (toldM nl f) := by
  obtain ⟨g, sg, Ng, pg, dV, kV, doc, pm, cdv, ct, oc, an, od, osl, p1, p2, p3, p8, h₀, hds, q1, q2, q3, q4, q5, q6, q7, q8, q9, q10⟩ := Td.ex
  obtain ⟨t, ht⟩ : ∃ t : XK → TE, ∀ E, (∀ X, In (lamSC c scope k E) X → PE X body (t E)) ∧ Sp2 (lamSC c scope k E).κ c.cl E (Rep c.K) (t E) f := ⟨fun E => Classical.choose (hb E).ex, fun E => Classical.choose_spec (hb E).ex⟩
  refine ⟨LamX.tLam c.T (TTm c.K (nl.map fun p => (c.cl p.1, p.2))) t, fun X h => ?_, fun F σ G H δ r s e Q p => ?_⟩
  · have hT : c.T ≠ [] := by rw [L.T]; simp
    obtain ⟨hc1, hc2⟩ := h.code.resolve_left hT
    have hG : LamX.GivesTo X Ng "_law_told" sg g cdv [.Try [.Return (some (.Call (.Name "what" p1) [] [] p2)) p3] (h₀ :: hds) [] [] p8] "what" (X.env.qual ++ "<lambda>") (TTm X.K (nl.map fun p => (c.cl p.1, p.2))) := gives_many (by rw [h.mg]; exact q9) q10
    rw [h.K] at hG
    exact LamX.pe_lamcall (k := k) (c := C) (P := Pt) (show X.env.scope.names.lookup _ = _ by rw [h.sc]; exact hg) (by rw [h.mg]; exact q1) (by rw [h.K]; exact q2) (by rw [h.K]; exact q3) (by rw [h.K]; exact q4) (by rw [h.K]; exact q5) q6 q7 q8 hG
      (by rw [h.base, h.mg]; exact L.tb) (by rw [hc1]; exact L.code) (by rw [hc2, L.T]; simp) (fun x hx _ => by rw [L.T] at hx; rw [hc2]; simp only [List.mem_singleton] at hx; rw [hx]) (h.room.mono (Nat.le_of_ble_eq_true hk)) (LamX.lamS_by (by rw [h.sc]; exact hL)) (hdef _) hbind
      (fun A outer s H E f c' hr => (ht E).1 _ (in_lam h A outer s H f c' hr))
  · have hT : c.T ≠ [] := by rw [L.T]; simp
    refine ⟨s.tab, fun H1 eN T1 => ?_⟩
    have s1 := s.extN hT eN T1
    have s2 := s1.hide
    unfold toldM at e
    cases hf : f (hideOwn δ) with
    | none => rw [hf] at e; cases e
    | some rr =>
      rw [hf] at e
      have bs : ∀ b o, besides G H1 b = some o → G b = none ∧ H1 b = some o := fun b o e => by
        unfold besides at e
        split at e
        · cases e
        · rename_i q; exact ⟨q, e⟩
      show t (Ech c.K Q (nl.map fun p => (c.cl p.1, p.2))) σ H1 Q
      refine (ht (Ech c.K Q (nl.map fun p => (c.cl p.1, p.2)))).2 _ σ G H1 _ rr s2 hf Q ?_
      cases rr with
      | ok d δ' =>
        cases e
        exact fun G' H' v s' g' rv => p G' H' v (s1.after g' s'.sub s'.frm s'.dis s'.ntg) g' rv
      | ex n =>
        dsimp only at e
        cases hn : toldName nl n with
        | none => rw [hn] at e; cases e
        | some m =>
          rw [hn] at e
          cases e
          intro G' H' g' h' f'
          refine ech_of hn (fun j hj => Td.exm n j (toldName_mem hn) hj) ?_
          exact p G H' _ (s1.after (Same.refl _) (g'.trans h') f' (fun b o q => (bs b o q).1) s1.ntg) (Same.refl _) (.str _)
end
end FL

set_option Elab.async false
set_option linter.all false
set_option maxRecDepth 100000
set_option maxHeartbeats 2000000
/-! FL9: the law's rounds, and the law. -/
namespace FL
open PySem PySem.Spec PyProof.Rows L2
/-- _law_rounds(script, 1): a new list of one new row of three ints -/
def spRounds (K : PySem.W.Frag) : Sp := fun vs H Q _ => ∃ (a : Addr) (ns : List Int), vs = [.ref a, .int 1] ∧ SqL K H a (ns.map V.int) ∧
  ∀ (H' : Hp) (R p : Addr) (x y z : Int), Same H H' → H R = none → H p = none → H' R = some (.lst [.ref p]) → H' p = some (ints3 x y z) → Q (.ref R) H'
theorem SqL.len {K : PySem.W.Frag} {H : Hp} {a : Addr} {xs : List V} (h : SqL K H a xs) : True := trivial
/-- the rounds' def by its last statements -/
theorem ok_rounds {P : Program} {w : World} {K : PySem.W.Frag} {mg : Str → Option Value} {base : Heap} {cl : Nat → Addr} {a : Addr} {fd : FuncData} {st : Stmt} {N : List Str} {k : Nat} {rest : List Stmt} {rf : Fo} {q1 q2 q3 q4 q5 q6 : Pos}
    (F : Fun K "_law_rounds" "_law_rounds" st a fd) (Sc : FnScope N ["script", "most"] (defScope st)) (hN : N = (["script", "most", "cells", "cell"] : List Str)) (hc : Loc (defScope st) "cells")
    (hst : defBody st = .Assign [.Name "cells" q1] (.Subscript (.Name "script" q2) (.Slice none (some (.Name "most" q3)) none q4) q5) q6 :: rest)
    (body : ∀ E : XK, FS ⟨P, w, K, mg, base, N, defScope st, k, cl, E, fun _ => true, [], .none, ""⟩ rest rf)
    (hrf : ∀ ns : List Int, ∃ x y z, rf [.un, .val (.int 1), .val (.lst ((ns.take 1).map D.int)), .un] = some (.rt (.lst [.lst [.int x, .int y, .int z]]))) :
    FnOk P w K mg base (L2.CX P w) (k + 1) a fd ["script", "most"] (spRounds K) := by
  subst hN
  refine F.okX Sc (fun vs H Q E h => ?_) (fun cdv A outer s H vs Q E hr h => ?_)
  · obtain ⟨a, ns, rfl, _⟩ := h
    rfl
  · obtain ⟨t, pt, sp⟩ := (body E).ex
    have hin : In ⟨P, w, K, mg, base, ["script", "most", "cells", "cell"], defScope st, k, cl, E, fun _ => true, [], .none, ""⟩ (cxOf (L2.CX P w) P w K mg base ["script", "most", "cells", "cell"] "_law_rounds" (defScope st) a cdv A outer s H E) := ⟨rfl, rfl, rfl, rfl, rfl, rfl, rfl, rfl, hr, takes_of rfl rfl rfl rfl, fun _ _ => Or.inl rfl, passes_of rfl, Or.inl rfl⟩
    rw [hst]
    have v0 : Vis (defScope st) "script" := (Sc.par "script" (by simp)).elim .inl fun z => .inr (.inl z)
    have v1 : Vis (defScope st) "most" := (Sc.par "most" (by simp)).elim .inl fun z => .inr (.inl z)
    refine ⟨_, pss_cons (ps_set (i := 2) Sc.nd rfl hc (pe_slice sl_list (pe_var (i := 0) rfl v0) po_none (po_some (pe_var (i := 1) rfl v1))) (by rfl) (Or.inl rfl)) (pt _ hin), ?_⟩
    obtain ⟨b, ns, rfl, hs, q⟩ := h
    refine ⟨_, rfl, _, rfl, 1, rfl, b, _, rfl, hs, fun L hL => ?_⟩
    obtain ⟨x, y, z, hxyz⟩ := hrf ns
    have cut : cutV (ns.map V.int) none (some 1) = (ns.take 1).map V.int := by
      unfold cutV
      rw [HT.sIx_none]
      show (List.drop 0 (ns.map V.int)).take (HT.sIx _ _ (some ((1 : Nat) : Int)) - 0) = _
      rw [HT.sIx_nat, List.drop_zero, Nat.sub_zero, List.map_take, List.length_map]
      cases ns <;> simp
    rw [cut]
    -- from here by values
    have s0 : S (K, []) H [some (.ref b), some (.int 1), some (.ref L), none] (upd (fun _ => none) L (.lst ((ns.take 1).map V.int))) (upd H L (.lst ((ns.take 1).map V.int))) [.un, .val (.int 1), .val (.lst ((ns.take 1).map D.int)), .un] := by
      refine ⟨fun c o e => ?_, same_upd hL, fun c o e => ?_, rfl, fun i d e => ?_, fun i xs e => ?_, fun i j xs ys _ e => ?_, fun x hx => absurd (show x ∈ ([] : List (Addr × PySem.Str)) from hx) (by simp), fun x hx => absurd (show x ∈ ([] : List (Addr × PySem.Str)) from hx) (by simp), fun c ps e => ?_, .inl rfl⟩
      · by_cases hb : c = L
        · subst hb; rw [upd_same] at e ⊢; exact e
        · rw [upd_ne hb] at e; cases e
      · rw [upd_ne (ne_of_none e hL)]
      · match i, e with
        | 0, e => cases e
        | 1, e => cases e; exact ⟨_, rfl, .int 1⟩
        | 2, e => cases e; exact ⟨_, rfl, .lst upd_same (RepL.ints _)⟩
        | 3, e => cases e
        | n + 4, e => simp at e
      · match i, e with
        | 0, e => cases e
        | 1, e => cases e
        | 2, e => cases e
        | 3, e => cases e
        | n + 4, e => simp at e
      · match i, e with
        | 0, e => cases e
        | 1, e => cases e
        | 2, e => cases e
        | 3, e => cases e
        | n + 4, e => simp at e
      · by_cases hb : c = L
        · subst hb; rw [upd_same] at e; cases e
        · rw [upd_ne hb] at e; cases e
    refine sp H _ _ _ _ _ s0 hxyz _ fun σ' G' H' δ' v s' g' rv => ?_
    cases rv with
    | lst h1 h2 =>
      rename_i R xs
      cases h2 with
      | cons ha hb =>
        cases hb
        cases ha with
        | lst h3 h4 =>
          rename_i p ws
          have ew : ws = [V.int x, V.int y, V.int z] := RepL.ints' (ns := [x, y, z]) h4
          subst ew
          have fr : ∀ c o, G' c = some o → H c = none := fun c o e => by
            cases hh : H c with
            | none => rfl
            | some o' => have := s'.dis _ _ hh; rw [e] at this; cases this
          exact q H' R p x y z (fun c o e => s'.frm _ _ e) (fr _ _ h1) (fr _ _ h3) (s'.sub _ _ h1) (s'.sub _ _ h3)
/-- the law's promise -/
def spLaw (K : PySem.W.Frag) (T : List (Addr × Str)) : Sp := fun vs H Q _ => ∃ (a : Addr) (ns : List Int), vs = [.ref a] ∧ SqL K H a (ns.map V.int) ∧ (∀ p ∈ T, H p.1 = some (.tbl #[])) ∧ ∀ H', Q (.bl true) H'
def lawD (n i : Nat) (x y z : Int) : De := (List.replicate n Sl.un).set i (.own [.int x, .int y, .int z])
theorem law_ok {P : Program} {w : World} {K : PySem.W.Frag} {mg : Str → Option Value} {base : Heap} {cl : Nat → Addr} {fa fr : Addr} {fdr : FuncData} {params : Arguments} {sc : Scope} {dV kV doc pm cdv ct oc : Value} {an od : Option Addr} {osl : Array (Option Value)} {N : List Str} {k i : Nat} {T : List (Addr × Str)}
    {body rest : List Stmt} {bf rf : Fo} {p1 p2 p3 p4 p5 p6 : Pos} {jj : Nat}
    (lk : K.lookup fa = some ⟨oc, od, .func (PySem.W.fnOf "law" "law" params (.For (.Name "dice" p1) (.Call (.Name "_law_rounds" p2) [.Name "script" p3, .Constant (.int 1) jj p4] [] p5) body [] p6 :: rest) sc dV kV doc pm an cdv ct), osl⟩) (hcd : PySem.W.codeIn K cdv "law" = true)
    (Sc : FnScope N ["script"] sc) (hd : N[i]? = some ("dice" : Str)) (hd0 : i ≠ 0) (hdl : Loc sc "dice") (hv0 : N[0]? = some ("script" : Str))
    (hm : mg "_law_rounds" = some (.ref fr)) (hkp : PySem.W.keepIn K (.ref fr) = true) (hbr : Binds K fdr ["script", "most"] []) (hR : FnOk P w K mg base (L2.CX P w) k fr fdr ["script", "most"] (spRounds K)) (hgr : sc.names.lookup ("_law_rounds" : Str) = some .globalImplicit)
    (hb : ∀ E : XK, FS ⟨P, w, K, mg, base, N, sc, k, cl, E, fun _ => true, T, cdv, ("law" : Str) ++ (".<locals>." : Str)⟩ body bf) (hr : ∀ E : XK, FS ⟨P, w, K, mg, base, N, sc, k, cl, E, fun _ => true, T, cdv, ("law" : Str) ++ (".<locals>." : Str)⟩ rest rf)
    (fin : ∀ x y z : Int, ∃ δ', bf (lawD N.length i x y z) = some (.nx δ') ∧ rf δ' = some (.rt (.bl true))) :
    FnOk P w K mg base (L2.CX P w) (k + 1) fa (PySem.W.fnOf "law" "law" params (.For (.Name "dice" p1) (.Call (.Name "_law_rounds" p2) [.Name "script" p3, .Constant (.int 1) jj p4] [] p5) body [] p6 :: rest) sc dV kV doc pm an cdv ct) ["script"] (spLaw K T) := by
  refine fn_of lk hcd Sc (fun vs H Q E h => ?_) fun A outer s H vs Q E hrm h => ?_
  · obtain ⟨a, ns, rfl, _⟩ := h
    rfl
  · obtain ⟨tb, pb, sb⟩ := (hb E).ex
    obtain ⟨tr, pr, sr⟩ := (hr E).ex
    have hin : In ⟨P, w, K, mg, base, N, sc, k, cl, E, fun _ => true, T, cdv, ("law" : Str) ++ (".<locals>." : Str)⟩ (cxOf (L2.CX P w) P w K mg base N "law" sc fa cdv A outer s H E) := ⟨rfl, rfl, rfl, rfl, rfl, rfl, rfl, rfl, hrm, takes_of rfl rfl rfl rfl, fun _ _ => Or.inl rfl, passes_of rfl, Or.inr ⟨rfl, rfl⟩⟩
    have v0 : Vis sc "script" := (Sc.par "script" (by simp)).elim .inl fun z => .inr (.inl z)
    refine ⟨_, pss_cons (ps_for (passes_of rfl) rfl (pi_list (pe_callS hR hrm hgr hm hkp hbr (fun σ => passAt (W := fun cls d _ H => E cls d H) (takes_of rfl rfl rfl rfl) σ) (pa_cons (pe_var (i := 0) hv0 v0) (pa_cons pe_int pa_nil)))) (pg_name (i := i) Sc.nd hd hdl (Or.inl rfl)) (pb _ hin)) (pr _ hin), ?_⟩
    obtain ⟨a, ns, rfl, hs, hT, q⟩ := h
    have hN0 : 0 < N.length := by
      obtain ⟨z, _⟩ := List.getElem?_eq_some_iff.mp hv0
      exact z
    have st0 : (L2.start N [V.ref a])[0]? = some (some (V.ref a)) := rfl
    have stl : (L2.start N [V.ref a]).length = N.length := start_len (by show 1 ≤ N.length; exact hN0)
    refine ⟨_, st0, a, ns, rfl, hs, fun H1 R p x y z sm nR np hR1 hp1 => ?_⟩
    have nRp : R ≠ p := ne_of hR1 hp1 (by intro e; cases e)
    refine ⟨R, rfl, ⟨_, .inl (.inl hR1)⟩, ?_⟩
    obtain ⟨δ', hbf, hrf⟩ := fin x y z
    have s0 : S (K, T) (upd (fun _ => none) R (.lst [.ref p])) ((L2.start N [V.ref a]).set i (some (.ref p))) (fun _ => none) H1 (lawD N.length i x y z) := by
      have hil : i < N.length := by
        obtain ⟨z, _⟩ := List.getElem?_eq_some_iff.mp hd
        exact z
      have getd : ∀ (j : Nat) sl, (lawD N.length i x y z)[j]? = some sl → (j = i ∧ sl = .own [.int x, .int y, .int z]) ∨ sl = .un := fun j sl e => by
        unfold lawD at e
        rcases get_set e with ⟨h1, _, h2⟩ | ⟨_, h2⟩
        · exact .inl ⟨h1.symm, h2⟩
        · rw [List.getElem?_replicate] at h2
          split at h2
          · cases h2; exact .inr rfl
          · cases h2
      refine ⟨(fun c o e => nomatch e), fun c o e => ?_, fun c o e => rfl, by unfold lawD; simp [stl], fun j d e => ?_, fun j xs e => ?_, fun j l xs ys hn e1 e2 => ?_, fun t ht => ⟨#[], sm _ _ (hT t ht), True.intro, fun pos cv hc => ?_⟩, fun t ht => ⟨?_, rfl⟩, (fun c ps e => nomatch e), .inr fun c ps e => ?_⟩
      · by_cases hb : c = R
        · subst hb; rw [upd_same] at e; rw [← e]; exact hR1
        · rw [upd_ne hb] at e; cases e
      · rcases getd j _ e with ⟨_, z⟩ | z <;> cases z
      · rcases getd j _ e with ⟨hj, z⟩ | z
        · cases z
          subst hj
          refine ⟨p, [.int x, .int y, .int z], ?_, hp1, RepL.ints [x, y, z], rfl, by rw [upd_ne (Ne.symm nRp)]⟩
          rw [List.getElem?_set_self (by rw [stl]; exact hil)]
        · cases z
      · rcases getd j _ e1 with ⟨hj, _⟩ | z
        · rcases getd l _ e2 with ⟨hl, _⟩ | z
          · exact absurd (hj.trans hl.symm) hn
          · cases z
        · cases z
      · simp [codeAmong] at hc
      · rw [upd_ne]
        intro e
        have := hT t ht
        rw [e, nR] at this
        cases this
      · by_cases hb : c = R
        · subst hb; rw [upd_same] at e; exact ⟨_, (Option.some.inj e).symm⟩
        · rw [upd_ne hb] at e; cases e
    refine for_list (K := K) (a := R) (xs := [.ref p]) (fun n σ' H' => (n = 0 ∧ σ' = L2.start N [V.ref a] ∧ H' = H1) ∨ (n = 1 ∧ SqL K H' R [.ref p] ∧ ∃ G', S (K, T) (upd (fun _ => none) R (.lst [.ref p])) σ' G' H' δ')) (.inl ⟨rfl, rfl, rfl⟩) (fun n σ' H' _ hp => ?_) (fun n v σ' H' hv hp => ?_) (fun σ' H' hp => ?_)
    · rcases hp with ⟨_, rfl, rfl⟩ | ⟨_, h, _⟩
      · exact .inl (.inl hR1)
      · exact h
    · rcases hp with ⟨rfl, rfl, rfl⟩ | ⟨rfl, _⟩
      · cases hv
        refine sb _ _ _ _ _ _ s0 hbf _ fun σ' G' H' s' g' => ?_
        exact .inr ⟨rfl, .inl (.inl (s'.frm R _ upd_same)), G', s'⟩
      · cases hv
    · rcases hp with ⟨h0, _⟩ | ⟨_, _, G', s'⟩
      · cases h0
      · refine sr _ _ _ _ _ _ s' hrf _ fun σ2 G2 H2 δ2 v s2 g2 rv => ?_
        cases rv
        exact q H2
theorem sw_false {elt : Expr} {gs : List Comprehension} {scope : Scope} {pos py : Pos} {y : Str} {l : Nat} {env : Env} (h : env.scope.names.lookup y = some .cell) : swapsWith (.ListComp elt gs scope pos) (some (.Name y py)) l env = pure false := by
  have hk : env.kindOf y = some .cell := h
  show pure (env.blockKind == .function && env.kindOf y == some .local && _ && _) = pure false
  rw [hk]
  have e : (some NameKind.cell == some NameKind.local) = false := by decide
  rw [e]
  simp only [Bool.and_false, Bool.false_and]
def forBody : List Stmt → List Stmt
  | .For _ _ b _ _ :: _ => b
  | _ => []
end FL

set_option Elab.async false
set_option linter.all false
set_option maxRecDepth 100000
set_option maxHeartbeats 2000000
/-! FL10: the end of a law's row. -/
namespace FL
open PySem PySem.Spec PyProof.Rows L2
theorem walk_law {l : PySem.W.OpenLaw} {n k : Nat} {q : Program} {loose : List Str} {XP : (Str → Option Value) → Heap → Prop} {YP : World → Heap → Prop} {d : DefRec} {K : Params → PySem.W.Frag} {x : Str} {C Pt : Addr}
    (hn : l.most = some n) (hn2 : n ≤ sizeLine) (hdf : d.params.defaults = []) (hr : Room k callerA) (hY : ∀ (w : World) (h : Heap), YP w h → (K w.params).In h)
    (hT : ∀ (w : World) (h : Heap), YP w h → h.get? Pt = some { cls := .none, data := .fields #[] }) (hc : ∀ w : World, PySem.W.codeHdIn (K w.params) C Pt = true) (hK : ∀ w : World, (K w.params).lookup Pt = none)
    (F : ∀ (w : World) (mg : Str → Option Value) (fa : Addr) (h : Heap), (K w.params).In h → h.Ns mainGlobals mg → mg d.name = some (.ref fa) →
      ∃ fd : FuncData, (∀ (s : Shared) (u : Value), BindsTo s fd ⟨[u], []⟩ [(x, u)]) ∧ ∀ base : Heap, (K w.params).In base → base.Ns mainGlobals mg → LamX.TabB base mg C Pt → FnOk l.prog w (K w.params) mg base (L2.CX l.prog w) k fa fd [x] (spLaw (K w.params) [(Pt, (("law" : Str) ++ (".<locals>." : Str)) ++ "<lambda>")])) :
    PySem.W.WalkO q loose XP YP l.row.toRowW d [] (fun f vs => PySem.call f vs) := by
  refine Att.attach_callB hn hdf fun w s₀ s₁ mg mb fa o pm cd doc a vs ns G Y ho hd hcd hmg hobj hints hlen hbits hg => ?_
  have KX := hY w _ Y
  have hT := hT w _ Y
  have hC := PySem.W.codeHd_of_K KX (hc w)
  obtain ⟨fd, hb, hF⟩ := F w mg fa _ KX G.T.g hmg
  refine LamX.law_callTs (cs := [(C, Pt)]) (sp := spLaw (K w.params) [(Pt, (("law" : Str) ++ (".<locals>." : Str)) ++ "<lambda>")]) KX G.T.g G.T.b G.T.builtins G.T.nolimit hg (fun p hp => ?_) (fun p hp => ?_) (fun p hp => ?_) G.T.bmain hobj hints (Nat.le_trans hlen hn2) hr (fun base h1 h2 h3 => hF base h1 h2 (h3 (C, Pt) (by simp))) hb (fun H hH hS => ?_) fun H e s' hx => ?_
  · simp only [List.mem_singleton] at hp; subst hp; exact hT
  · simp only [List.mem_singleton] at hp; subst hp; exact hK w
  · simp only [List.mem_singleton] at hp; subst hp; exact hC
  · refine ⟨a, ns, rfl, hS, fun p hp => ?_, fun H' => rfl⟩
    simp only [List.mem_singleton] at hp; subst hp
    exact hH (C, Pt) (by simp)
  · obtain ⟨_, _, _, _, _, _, _, _, _, _, _, _, z⟩ := hx
    exact z
theorem const_tup {K : PySem.W.Frag} {h : Heap} {mg : Str → Option Value} {x : Str} {a : Addr} {xs : List V} {ds : List D} {od : Option Addr} {its : Array Value} {n : Nat} {sl : Array (Option Value)} (X : K.In h) (G : h.Ns mainGlobals mg) (ha : PySem.W.nsIn K mainGlobals x = some (some (.ref a))) (hl : K.lookup a = some ⟨.type "tuple", od, .seq its n, sl⟩) (hs : its.size ≤ sizeLine) (hv : Vals xs its.toList) (hd : ∀ G, RepL K G xs ds) : Const K mg x (.tup ds) :=
  ⟨.ref a, .ref a, PySem.W.mg_of X G ha, rfl, fun G => .tup (.inr ⟨_, its, n, hl, rfl, rfl, hs, hv⟩) (hd G)⟩
theorem const_val {K : PySem.W.Frag} {h : Heap} {mg : Str → Option Value} {x : Str} {u : Value} {v : V} {d : D} (X : K.In h) (G : h.Ns mainGlobals mg) (ha : PySem.W.nsIn K mainGlobals x = some (some u)) (r : RelV v u) (hd : ∀ G, Rep K G v d) : Const K mg x d := ⟨v, u, PySem.W.mg_of X G ha, r, hd⟩
def exmAll (K : PySem.W.Frag) (cl : Nat → Addr) (nl : List Nat) : Bool := nl.all fun i => nl.all fun j => decide (PySem.W.exmOne K (.ref (cl i)) (.ref (cl j)) = some (i == j))
theorem exm_all {K : PySem.W.Frag} {cl : Nat → Addr} {nl : List Nat} (h : exmAll K cl nl = true) : ∀ i j, i ∈ nl → j ∈ nl → PySem.W.exmOne K (.ref (cl i)) (.ref (cl j)) = some (i == j) := fun i j hi hj => of_decide_eq_true (List.all_eq_true.mp (List.all_eq_true.mp h i hi) j hj)
end FL

set_option Elab.async false
set_option linter.all false
set_option maxRecDepth 100000
set_option maxHeartbeats 2000000
/-! FL11: what bodies come to, by values. -/
namespace FL
open PySem PySem.Spec PyProof.Rows L2
theorem eqB_int (a b : Int) : eqB (.int a) (.int b) = some (a == b) := rfl
theorem eqB_bl (a b : Bool) : eqB (.bl a) (.bl b) = some (a == b) := rfl
theorem eqB_str {a b : Str} (ha : PyData.strOk a = true) (hb : PyData.strOk b = true) : eqB (.str a) (.str b) = some (a == b) := by
  have e : ∀ {x : Str}, PyData.strOk x = true → SeqAt.shaped (.str x) = true := fun {x} h => by
    unfold SeqAt.shaped PyData.canLay0
    rw [h]; rfl
  unfold eqB toPy
  dsimp only
  rw [e ha, e hb]
  rfl
theorem eqD_int (a b : Int) : eqD (.int a) (.int b) = some (.bl (a == b)) := rfl
theorem neD_int (a b : Int) : neD (.int a) (.int b) = some (.bl (!(a == b))) := rfl
theorem eqD_bl (a b : Bool) : eqD (.bl a) (.bl b) = some (.bl (a == b)) := rfl
theorem neD_bl (a b : Bool) : neD (.bl a) (.bl b) = some (.bl (!(a == b))) := rfl
theorem eqD_int_non (a : Int) : eqD (.int a) .non = some (.bl false) := rfl
theorem toPyL_ints : ∀ xs : List Int, toPyL (xs.map D.int) = some (xs.map PyData.int)
  | [] => rfl
  | x :: xs => by rw [List.map_cons, toPyL, toPyL_ints xs]; rfl
theorem canLay_ints : ∀ xs : List Int, PyData.canLayAll0 (xs.map PyData.int) = true
  | [] => rfl
  | x :: xs => by rw [List.map_cons, PyData.canLayAll0, canLay_ints xs]; rfl
theorem eqv_ints : ∀ xs ys : List Int, PyData.eqvAll (xs.map PyData.int) (ys.map PyData.int) = decide (xs = ys)
  | [], [] => rfl
  | [], y :: ys => rfl
  | x :: xs, [] => rfl
  | x :: xs, y :: ys => by
    rw [List.map_cons, List.map_cons, PyData.eqvAll, eqv_ints xs ys]
    show (x == y && decide (xs = ys)) = decide (x :: xs = y :: ys)
    by_cases h : x = y
    · subst h; simp
    · simp [h]
theorem eqB_ints (xs ys : List Int) : eqB (.lst (xs.map .int)) (.lst (ys.map .int)) = some (decide (xs = ys)) := by
  have sh : ∀ xs : List Int, SeqAt.shaped (.list (xs.map .int)) = true := fun xs => by
    unfold SeqAt.shaped PyData.canLay0 PyData.depth
    rw [canLay_ints, PySem.W.depth_ints]; rfl
  unfold eqB toPy
  rw [toPyL_ints, toPyL_ints]
  simp only [Option.map_some]
  rw [sh, sh]
  show some (PyData.eqvAll _ _) = _
  rw [eqv_ints]
theorem eqB_tups (xs ys : List Int) : eqB (.tup (xs.map .int)) (.tup (ys.map .int)) = some (decide (xs = ys)) := by
  have sh : ∀ xs : List Int, SeqAt.shaped (.tuple (xs.map .int)) = true := fun xs => by
    unfold SeqAt.shaped PyData.canLay0 PyData.depth
    rw [canLay_ints, PySem.W.depth_ints]; rfl
  unfold eqB toPy
  rw [toPyL_ints, toPyL_ints]
  simp only [Option.map_some]
  rw [sh, sh]
  show some (PyData.eqvAll _ _) = _
  rw [eqv_ints]
theorem restD_id {δ δ3 : De} {vs : List Nat} (h1 : δ3.length = δ.length) (h2 : ∀ j, j ∉ vs → δ3[j]? = δ[j]?) : restD δ δ3 vs = δ := by
  apply List.ext_getElem?
  intro j
  rw [restD_get]
  by_cases hj : j ∈ vs
  · rw [if_pos hj]
    by_cases hl : j < δ.length
    · rw [List.getElem?_eq_getElem (show j < δ3.length by omega), List.getElem?_eq_getElem hl]
      rfl
    · rw [List.getElem?_eq_none_iff.mpr (by omega), List.getElem?_eq_none_iff.mpr (by omega)]
      rfl
  · rw [if_neg hj, h2 j hj]
/-- a comprehension whose element is read off the item -/
theorem lcD_map {vs : List Nat} {bd : D → De → Option De} {fe : M D} {g : D → D} {δ : De} (hno : noOwn δ vs = true) : ∀ (ds : List D), (∀ d ∈ ds, ∃ δ1, bd d (wipeD δ vs) = some δ1 ∧ δ1.length = δ.length ∧ (∀ j, j ∉ vs → δ1[j]? = δ[j]?) ∧ fe δ1 = some (.ok (g d) δ1)) →
    lcD vs bd (pureM true) fe ds δ = some (.ok (ds.map g) δ)
  | [], _ => rfl
  | d :: ds, h => by
    obtain ⟨δ1, h1, h2, h3, h4⟩ := h d (by simp)
    rw [lcD, if_pos hno, h1]
    dsimp only [pureM]
    rw [h4]
    dsimp only
    rw [restD_id h2 h3, lcD_map hno ds fun x hx => h x (by simp [hx])]
    rfl
theorem lcD_filter {vs : List Nat} {bd : D → De → Option De} {tt : M Bool} {fe : M D} {p : D → Bool} {g : D → D} {δ : De} (hno : noOwn δ vs = true) : ∀ (ds : List D), (∀ d ∈ ds, ∃ δ1, bd d (wipeD δ vs) = some δ1 ∧ δ1.length = δ.length ∧ (∀ j, j ∉ vs → δ1[j]? = δ[j]?) ∧ tt δ1 = some (.ok (p d) δ1) ∧ (p d = true → fe δ1 = some (.ok (g d) δ1))) →
    lcD vs bd tt fe ds δ = some (.ok ((ds.filter p).map g) δ)
  | [], _ => rfl
  | d :: ds, h => by
    obtain ⟨δ1, h1, h2, h3, h4, h5⟩ := h d (by simp)
    have ih := lcD_filter hno ds fun x hx => h x (by simp [hx])
    rw [lcD, if_pos hno, h1]
    dsimp only
    rw [h4]
    cases hp : p d with
    | false =>
      dsimp only
      rw [restD_id h2 h3, ih, List.filter_cons_of_neg (by simp [hp])]
    | true =>
      dsimp only
      rw [h5 hp]
      dsimp only
      rw [restD_id h2 h3, ih, List.filter_cons_of_pos hp]
      rfl
/-- what a name binds in a comprehension -/
theorem bind1 {v : Nat} {d : D} {δ : De} : ∃ δ1, bName v d (wipeD δ [v]) = some δ1 ∧ δ1 = δ.set v (.val d) ∧ δ1.length = δ.length ∧ ∀ j, j ∉ [v] → δ1[j]? = δ[j]? := by
  refine ⟨δ.set v (.val d), ?_, rfl, by simp, fun j hj => ?_⟩
  · show some (((δ.set v .un)).set v (.val d)) = _
    rw [List.set_set]
  · rw [List.getElem?_set_ne]
    simpa using Ne.symm (by simpa using hj)
theorem bind2 {u v : Nat} {x y : D} {δ : De} (huv : u ≠ v) : ∃ δ1, bTup (bCons (bName u) (bCons (bName v) bNil)) (.tup [x, y]) (wipeD δ [u, v]) = some δ1 ∧ δ1 = (δ.set u (.val x)).set v (.val y) ∧ δ1.length = δ.length ∧ ∀ j, j ∉ [u, v] → δ1[j]? = δ[j]? := by
  refine ⟨(δ.set u (.val x)).set v (.val y), ?_, rfl, by simp, fun j hj => ?_⟩
  · show some ((((δ.set v .un).set u .un).set u (.val x)).set v (.val y)) = _
    rw [List.set_set, List.set_comm _ _ (Ne.symm huv), List.set_set]
  · simp only [List.mem_cons, List.not_mem_nil, or_false, not_or] at hj
    rw [List.getElem?_set_ne (Ne.symm hj.2), List.getElem?_set_ne (Ne.symm hj.1)]
/-- [c + _law_roll(dice, m) for k in ..] -/
theorem rolls {i v : Nat} {c m : Int} (hm : 0 < m ∧ m < 1073741824) (hiv : i ≠ v) : ∀ (ds : List D) (δ : De) (x y z : Int), ownAt δ i = some [.int x, .int y, .int z] → ownAt δ v = none →
    ∃ (rs : List Int) (x' y' z' : Int), rs.length = ds.length ∧ (∀ r ∈ rs, c ≤ r ∧ r < c + m) ∧ lcD [v] (bName v) (pureM true) (bin2 addD (pureM (.int c)) (rollM i (pureM (.int m)))) ds δ = some (.ok (rs.map .int) (δ.set i (.own [.int x', .int y', .int z'])))
  | [], δ, x, y, z, h, _ => by
    have e := ownAt_some h
    have hl : i < δ.length := (List.getElem?_eq_some_iff.mp e).1
    refine ⟨[], x, y, z, rfl, by simp, ?_⟩
    rw [lcD]
    congr 2
    apply List.ext_getElem?
    intro j
    by_cases hj : i = j
    · subst hj; rw [List.getElem?_set_self hl, e]
    · rw [List.getElem?_set_ne hj]
  | d :: ds, δ, x, y, z, h, hv => by
    have e := ownAt_some h
    have hl : i < δ.length := (List.getElem?_eq_some_iff.mp e).1
    have r0 := rollF_lo x y z m hm.1
    have r1 := rollF_hi x y z m hm.1
    generalize hr : rollF x y z m = rr at r0 r1
    obtain ⟨r, x1, y1, z1⟩ := rr
    have own1 : ownAt (δ.set i (.own [.int x1, .int y1, .int z1])) i = some [.int x1, .int y1, .int z1] := by
      unfold ownAt; rw [List.getElem?_set_self hl]
    have ownv : ownAt (δ.set i (.own [.int x1, .int y1, .int z1])) v = none := by
      unfold ownAt at hv ⊢; rw [List.getElem?_set_ne hiv]; exact hv
    obtain ⟨rs, x', y', z', h1, h2, h3⟩ := rolls hm hiv ds (δ.set i (.own [.int x1, .int y1, .int z1])) x1 y1 z1 own1 ownv
    refine ⟨(c + r) :: rs, x', y', z', by simp [h1], fun q hq => ?_, ?_⟩
    · rcases List.mem_cons.mp hq with rfl | hq
      · dsimp only at r0 r1; omega
      · exact h2 q hq
    · have no : noOwn δ [v] = true := by unfold noOwn; simp [hv]
      have st : ∀ δ : De, bName v d (wipeD δ [v]) = some (δ.set v (.val d)) := fun δ => by
        show some ((δ.set v .un).set v (.val d)) = _
        rw [List.set_set]
      rw [lcD, if_pos no, st]
      dsimp only [pureM]
      have ow : ownAt (δ.set v (.val d)) i = some [.int x, .int y, .int z] := by
        unfold ownAt; rw [List.getElem?_set_ne (Ne.symm hiv), e]
      have ev : bin2 addD (pureM (.int c)) (rollM i (pureM (.int m))) (δ.set v (.val d)) = some (.ok (.int (c + r)) ((δ.set v (.val d)).set i (.own [.int x1, .int y1, .int z1]))) := by
        unfold bin2 bindM rollM pureM
        dsimp only
        rw [ow]
        unfold bindM rollK
        dsimp only
        rw [ow]
        dsimp only
        rw [if_pos hm, hr]
        rfl
      rw [ev]
      dsimp only
      have er : restD δ ((δ.set v (.val d)).set i (.own [.int x1, .int y1, .int z1])) [v] = δ.set i (.own [.int x1, .int y1, .int z1]) := by
        apply List.ext_getElem?
        intro j
        rw [restD_get]
        by_cases hj : j = v
        · subst hj
          rw [if_pos (by simp), List.getElem?_set_ne hiv, List.getElem?_set_ne hiv, List.getElem?_set]
          by_cases hl : j < δ.length
          · simp [hl]
          · simp [hl]
        · rw [if_neg (by simpa using hj)]
          by_cases hi : i = j
          · subst hi
            rw [List.getElem?_set_self (by simpa using hl), List.getElem?_set_self hl]
          · rw [List.getElem?_set_ne hi, List.getElem?_set_ne hi, List.getElem?_set_ne (Ne.symm hj)]
      rw [er, h3]
      dsimp only
      rw [List.set_set]
      rfl
theorem seqS_nx {f g : Fo} {δ δ' : De} (h : f δ = some (.nx δ')) : seqS f g δ = g δ' := by unfold seqS; rw [h]
theorem thenS_ok {α : Type} {m : M α} {k : α → Fo} {δ δ' : De} {a : α} (h : m δ = some (.ok a δ')) : thenS m k δ = k a δ' := by unfold thenS; rw [h]
theorem own_at {δ : De} {i : Nat} {xs : List D} (h : δ[i]? = some (.own xs)) : ownAt δ i = some xs := by unfold ownAt; rw [h]
theorem roll1 {i : Nat} {m x y z : Int} {δ : De} (hm : 0 < m ∧ m < 1073741824) (h : ownAt δ i = some [.int x, .int y, .int z]) :
    ∃ r x' y' z' : Int, 0 ≤ r ∧ r < m ∧ rollM i (pureM (.int m)) δ = some (.ok (.int r) (δ.set i (.own [.int x', .int y', .int z']))) := by
  refine ⟨(rollF x y z m).1, (rollF x y z m).2.1, (rollF x y z m).2.2.1, (rollF x y z m).2.2.2, rollF_lo x y z m hm.1, rollF_hi x y z m hm.1, ?_⟩
  unfold rollM
  rw [h]
  dsimp only [FL.bindM, pureM]
  unfold rollK
  rw [h]
  dsimp only
  rw [if_pos hm]
theorem lcM_rolls {i v : Nat} {c m x y z : Int} {items : M (List D)} {δ δ1 : De} {ds : List D} (hm : 0 < m ∧ m < 1073741824) (hiv : i ≠ v) (hi : items δ = some (.ok ds δ1)) (hl : ds.length < 1000000) (h : ownAt δ1 i = some [.int x, .int y, .int z]) (hv : ownAt δ1 v = none) :
    ∃ (rs : List Int) (x' y' z' : Int), rs.length = ds.length ∧ (∀ r ∈ rs, c ≤ r ∧ r < c + m) ∧ lcM [v] (bName v) (pureM true) (bin2 addD (pureM (.int c)) (rollM i (pureM (.int m)))) items δ = some (.ok (.lst (rs.map .int)) (δ1.set i (.own [.int x', .int y', .int z']))) := by
  obtain ⟨rs, x', y', z', h1, h2, h3⟩ := rolls (c := c) hm hiv ds δ1 x y z h hv
  refine ⟨rs, x', y', z', h1, h2, ?_⟩
  unfold lcM
  rw [bindM_ok hi, if_pos hl, bindM_ok h3]
  rfl
theorem lcM_map {vs : List Nat} {bd : D → De → Option De} {fe : M D} {g : D → D} {items : M (List D)} {δ δ1 : De} {ds : List D} (hi : items δ = some (.ok ds δ1)) (hl : ds.length < 1000000) (hno : noOwn δ1 vs = true)
    (h : ∀ d ∈ ds, ∃ δ2, bd d (wipeD δ1 vs) = some δ2 ∧ δ2.length = δ1.length ∧ (∀ j, j ∉ vs → δ2[j]? = δ1[j]?) ∧ fe δ2 = some (.ok (g d) δ2)) : lcM vs bd (pureM true) fe items δ = some (.ok (.lst (ds.map g)) δ1) := by
  unfold lcM
  rw [bindM_ok hi, if_pos hl, bindM_ok (lcD_map hno ds h)]
  rfl
theorem lcM_filter {vs : List Nat} {bd : D → De → Option De} {tt : M Bool} {fe : M D} {p : D → Bool} {g : D → D} {items : M (List D)} {δ δ1 : De} {ds : List D} (hi : items δ = some (.ok ds δ1)) (hl : ds.length < 1000000) (hno : noOwn δ1 vs = true)
    (h : ∀ d ∈ ds, ∃ δ2, bd d (wipeD δ1 vs) = some δ2 ∧ δ2.length = δ1.length ∧ (∀ j, j ∉ vs → δ2[j]? = δ1[j]?) ∧ tt δ2 = some (.ok (p d) δ2) ∧ (p d = true → fe δ2 = some (.ok (g d) δ2))) : lcM vs bd tt fe items δ = some (.ok (.lst ((ds.filter p).map g)) δ1) := by
  unfold lcM
  rw [bindM_ok hi, if_pos hl, bindM_ok (lcD_filter hno ds h)]
  rfl
theorem cut_tail {α : Type} (xs : List α) : cutL xs (some 1) none = xs.tail := by
  unfold cutL
  rw [show HT.sIx xs.length 0 (some 1) = min 1 xs.length from HT.sIx_nat xs.length 0 1, HT.sIx_none]
  cases xs with
  | nil => rfl
  | cons x r =>
    rw [show min 1 (x :: r).length = 1 by simp]
    simp
theorem zipL_ints : ∀ (xs ys : List Int), zipL (xs.map .int) (ys.map .int) = (xs.zip ys).map fun p => .tup [.int p.1, .int p.2]
  | [], ys => by simp [zipL]
  | x :: xs, [] => by simp [zipL]
  | x :: xs, y :: ys => by simp [zipL, zipL_ints xs ys]
end FL

set_option Elab.async false
set_option linter.all false
set_option maxRecDepth 100000
set_option maxHeartbeats 2000000
/-! FL12: going on through a body, statement by statement. -/
namespace FL
open PySem PySem.Spec PyProof.Rows L2
def Nx (f : Fo) (δ : De) : Prop := ∃ δ', f δ = some (.nx δ')
theorem nx_seq {f g : Fo} {δ : De} (δ' : De) (h : f δ = some (.nx δ')) (k : Nx g δ') : Nx (seqS f g) δ := by
  obtain ⟨x, hx⟩ := k
  exact ⟨x, by rw [seqS_nx h]; exact hx⟩
theorem rt_seq {f g : Fo} {δ δ' : De} {o : Option Out} (h : f δ = some (.nx δ')) (k : g δ' = o) : seqS f g δ = o := by rw [seqS_nx h]; exact k
theorem if_no {m : M Bool} {f : Fo} {δ : De} (h : m δ = some (.ok false δ)) : thenS m (fun k => if k then f else nxS) δ = some (.nx δ) := by rw [thenS_ok h]; rfl
theorem not_no {m : M Bool} {δ : De} (h : m δ = some (.ok true δ)) : bindM m (fun k => pureM (!k)) δ = some (.ok false δ) := by rw [bindM_ok h]; rfl
theorem or_no {f g : M Bool} {δ : De} (h1 : f δ = some (.ok false δ)) (h2 : g δ = some (.ok false δ)) : orT f g δ = some (.ok false δ) := by
  unfold orT; rw [bindM_ok h1]; exact h2
theorem and_no1 {f g : M Bool} {δ : De} (h1 : f δ = some (.ok false δ)) : andT f g δ = some (.ok false δ) := by
  unfold andT; rw [bindM_ok h1]; rfl
theorem and_2 {f g : M Bool} {δ : De} {b : Bool} (h1 : f δ = some (.ok true δ)) (h2 : g δ = some (.ok b δ)) : andT f g δ = some (.ok b δ) := by
  unfold andT; rw [bindM_ok h1]; exact h2
theorem bin2_of {g : D → D → Option D} {m n : M D} {x y d : D} {δ δ1 δ2 : De} (h1 : m δ = some (.ok x δ1)) (h2 : n δ1 = some (.ok y δ2)) (h3 : g x y = some d) : bin2 g m n δ = some (.ok d δ2) := by
  unfold bin2; rw [bindM_ok h1, bindM_ok h2, h3]; rfl
theorem tst_of {m : M D} {b : Bool} {δ δ1 : De} (h : m δ = some (.ok (.bl b) δ1)) : tst m δ = some (.ok b δ1) := by
  unfold tst; rw [bindM_ok h]; rfl
theorem ne_no {m n : M D} {x y : D} {δ δ1 δ2 : De} (h1 : m δ = some (.ok x δ1)) (h2 : n δ1 = some (.ok y δ2)) (h3 : eqB x y = some true) : tst (bin2 neD m n) δ = some (.ok false δ2) :=
  tst_of (bin2_of h1 h2 (by unfold neD; rw [h3]; rfl))
theorem eq_of {m n : M D} {x y : D} {b : Bool} {δ δ1 δ2 : De} (h1 : m δ = some (.ok x δ1)) (h2 : n δ1 = some (.ok y δ2)) (h3 : eqB x y = some b) : tst (bin2 eqD m n) δ = some (.ok b δ2) :=
  tst_of (bin2_of h1 h2 (by unfold eqD; rw [h3]; rfl))
theorem call_of {f : DF} {m : M (List D)} {ds : List D} {d : D} {δ δ1 : De} (h1 : m δ = some (.ok ds δ1)) (h2 : f ds = some (.ret d)) : callM f m δ = some (.ok d δ1) := by
  unfold callM; rw [bindM_ok h1, h2]; rfl
theorem cb_of {g : List D → Option D} {m : M (List D)} {ds : List D} {d : D} {δ δ1 : De} (h1 : m δ = some (.ok ds δ1)) (h2 : g ds = some d) : callB g m δ = some (.ok d δ1) := by
  unfold callB; rw [bindM_ok h1, h2]; rfl
theorem cons_of {m : M D} {n : M (List D)} {d : D} {ds : List D} {δ δ1 δ2 : De} (h1 : m δ = some (.ok d δ1)) (h2 : n δ1 = some (.ok ds δ2)) : consM m n δ = some (.ok (d :: ds) δ2) := by
  unfold consM; rw [bindM_ok h1, bindM_ok h2]; rfl
theorem one_of {m : M D} {d : D} {δ δ1 : De} (h1 : m δ = some (.ok d δ1)) : consM m (pureM []) δ = some (.ok [d] δ1) := cons_of h1 rfl
theorem itM_of {g : List D → Option (List D)} {m : M (List D)} {ds es : List D} {δ δ1 : De} (h1 : m δ = some (.ok ds δ1)) (h2 : g ds = some es) : itM g m δ = some (.ok es δ1) := by
  unfold itM; rw [bindM_ok h1, h2]; rfl
theorem var_of {i : Nat} {d : D} {δ : De} (h : δ[i]? = some (.val d)) : varM i δ = some (.ok d δ) := by unfold varM; rw [h]
theorem told_ex {nl : List (Nat × Str)} {m : M D} {δ : De} {k : Nat} {n : Str} (h : m (hideOwn δ) = some (.ex k)) (hn : toldName nl k = some n) : toldM nl m δ = some (.ok (.str n) δ) := by
  unfold toldM; rw [h]; dsimp only; rw [hn]; rfl
theorem lst_of {m : M (List D)} {ds : List D} {δ δ1 : De} (h : m δ = some (.ok ds δ1)) (hl : ds.length ≤ 1000000) : lstM m δ = some (.ok (.lst ds) δ1) := by
  unfold lstM; rw [bindM_ok h, if_pos hl]; rfl
theorem eqB_nil : eqB (.lst []) (.lst []) = some true := rfl
theorem eqB_tnil : eqB (.tup []) (.tup []) = some true := rfl
theorem rng1_len {n : Nat} (h : n < 1000000) : rng1 [.int (n : Int)] = some (rangeL 0 n) := by
  unfold rng1
  dsimp only
  rw [if_pos (by unfold inR; omega)]
  rfl
theorem rng1_pred {n : Nat} (h : n < 1000000) : rng1 [.int ((n : Int) - 1)] = some (rangeL 0 (n - 1)) := by
  unfold rng1
  dsimp only
  rw [if_pos (by unfold inR; omega)]
  rw [show ((n : Int) - 1).toNat = n - 1 by omega]
theorem rangeL_mem {lo : Int} {n : Nat} {d : D} (h : d ∈ rangeL lo n) : ∃ k : Nat, k < n ∧ d = .int (lo + k) := by
  unfold rangeL at h
  obtain ⟨k, hk, rfl⟩ := List.mem_map.mp h
  exact ⟨k, List.mem_range.mp hk, rfl⟩
theorem at_int {t : List Int} {k : Nat} (h : k < t.length) : ixD (.lst (t.map .int)) (.int (k : Int)) = some (.int (t.getD k 0)) := by
  show atI _ _ = _
  refine atI_nat ?_
  rw [List.getElem?_map, List.getElem?_eq_getElem h, List.getD_eq_getElem?_getD, List.getElem?_eq_getElem h]
  rfl
theorem at_int1 {t : List Int} {k : Nat} (h : k + 1 < t.length) : ixD (.lst (t.map .int)) (.int ((k : Int) + 1)) = some (.int (t.getD (k + 1) 0)) := at_int h
theorem maxL_eq {t : List Int} (h : t ≠ []) : maxD [.lst (t.map .int)] = some (.int (maxL t)) := by
  unfold maxD; dsimp only; rw [intsOf_map]; cases t with
  | nil => exact absurd rfl h
  | cons x r => rfl
theorem minL_eq {t : List Int} (h : t ≠ []) : minD [.lst (t.map .int)] = some (.int (minL t)) := by
  unfold minD; dsimp only; rw [intsOf_map]; cases t with
  | nil => exact absurd rfl h
  | cons x r => rfl
theorem enum_ints : ∀ (t : List Int) (k : Nat), enumFrom k (t.map .int) = (List.range t.length).map fun i => .tup [.int ((k + i : Nat) : Int), .int (t.getD i 0)]
  | [], k => rfl
  | x :: r, k => by
    rw [List.map_cons, enumFrom, enum_ints r (k + 1), List.length_cons, List.range_succ_eq_map, List.map_cons, List.map_map]
    congr 1
    apply List.map_congr_left
    intro i _
    simp [Nat.add_assoc, Nat.add_comm 1 i]
theorem enum_mem {t : List Int} {d : D} (h : d ∈ enumFrom 0 (t.map .int)) : ∃ k : Nat, k < t.length ∧ d = .tup [.int (k : Int), .int (t.getD k 0)] := by
  rw [enum_ints] at h
  obtain ⟨k, hk, rfl⟩ := List.mem_map.mp h
  exact ⟨k, List.mem_range.mp hk, by simp⟩
theorem flatL_ints : ∀ xs : List Int, flatL (xs.map .int) = some (xs.map V.int)
  | [] => rfl
  | x :: xs => by rw [List.map_cons, flatL, flatL_ints xs]; rfl
theorem in_ints (r : Int) (xs : List Int) : inD false (.int r) (.lst (xs.map .int)) = some (.bl (xs.any fun x => x == r)) := by
  unfold inD inB flatOf
  dsimp only
  rw [flatL_ints]
  show some (D.bl (inV (.int r) (xs.map V.int))) = _
  unfold inV
  rw [List.any_map]
  rfl
theorem in_tints (r : Int) (xs : List Int) : inD false (.int r) (.tup (xs.map .int)) = some (.bl (xs.any fun x => x == r)) := by
  unfold inD inB flatOf
  dsimp only
  rw [flatL_ints]
  show some (D.bl (inV (.int r) (xs.map V.int))) = _
  unfold inV
  rw [List.any_map]
  rfl
theorem andM_of {m n : M D} {p q : Bool} {δ : De} (h1 : m δ = some (.ok (.bl p) δ)) (h2 : n δ = some (.ok (.bl q) δ)) : andM m n δ = some (.ok (.bl (p && q)) δ) := by
  unfold andM; rw [bindM_ok h1]; cases p
  · rfl
  · exact h2

theorem forD_inv {bd : D → De → Option De} {f : Fo} {J : De → Prop} : ∀ (ds : List D) (δ : De), (∀ d ∈ ds, ∀ δ, J δ → ∃ δ1 δ2, bd d δ = some δ1 ∧ f δ1 = some (.nx δ2) ∧ J δ2) → J δ → ∃ δ', forD bd f ds δ = some (.nx δ') ∧ J δ'
  | [], δ, _, h => ⟨δ, rfl, h⟩
  | d :: ds, δ, hs, h => by
    obtain ⟨δ1, δ2, e1, e2, h2⟩ := hs d (by simp) δ h
    obtain ⟨δ', e3, h3⟩ := forD_inv ds δ2 (fun x hx => hs x (by simp [hx])) h2
    refine ⟨δ', ?_, h3⟩
    rw [forD, e1]
    dsimp only
    rw [e2]
    exact e3
/-- a comprehension whose element throws the dice -/
theorem dice_lc {i v : Nat} {fe : M D} {P : D → Prop} (hiv : i ≠ v) (hf : ∀ (δ : De) (x y z : Int), ownAt δ i = some [.int x, .int y, .int z] → ∃ (d : D) (x' y' z' : Int), P d ∧ fe δ = some (.ok d (δ.set i (.own [.int x', .int y', .int z'])))) :
    ∀ (ds : List D) (δ : De) (x y z : Int), ownAt δ i = some [.int x, .int y, .int z] → ownAt δ v = none →
    ∃ (es : List D) (x' y' z' : Int), es.length = ds.length ∧ (∀ e ∈ es, P e) ∧ lcD [v] (bName v) (pureM true) fe ds δ = some (.ok es (δ.set i (.own [.int x', .int y', .int z'])))
  | [], δ, x, y, z, h, _ => by
    have e := ownAt_some h
    have hl : i < δ.length := (List.getElem?_eq_some_iff.mp e).1
    refine ⟨[], x, y, z, rfl, by simp, ?_⟩
    rw [lcD]
    congr 2
    apply List.ext_getElem?
    intro j
    by_cases hj : i = j
    · subst hj; rw [List.getElem?_set_self hl, e]
    · rw [List.getElem?_set_ne hj]
  | d :: ds, δ, x, y, z, h, hv => by
    have e := ownAt_some h
    have hl : i < δ.length := (List.getElem?_eq_some_iff.mp e).1
    have ow : ownAt (δ.set v (.val d)) i = some [.int x, .int y, .int z] := by
      unfold ownAt; rw [List.getElem?_set_ne (Ne.symm hiv), e]
    obtain ⟨r, x1, y1, z1, hp, ev⟩ := hf _ _ _ _ ow
    have own1 : ownAt (δ.set i (.own [.int x1, .int y1, .int z1])) i = some [.int x1, .int y1, .int z1] := by
      unfold ownAt; rw [List.getElem?_set_self hl]
    have ownv : ownAt (δ.set i (.own [.int x1, .int y1, .int z1])) v = none := by
      unfold ownAt at hv ⊢; rw [List.getElem?_set_ne hiv]; exact hv
    obtain ⟨rs, x', y', z', h1, h2, h3⟩ := dice_lc hiv hf ds (δ.set i (.own [.int x1, .int y1, .int z1])) x1 y1 z1 own1 ownv
    refine ⟨r :: rs, x', y', z', by simp [h1], fun q hq => ?_, ?_⟩
    · rcases List.mem_cons.mp hq with rfl | hq
      · exact hp
      · exact h2 q hq
    · have no : noOwn δ [v] = true := by unfold noOwn; simp [hv]
      have st : ∀ δ : De, bName v d (wipeD δ [v]) = some (δ.set v (.val d)) := fun δ => by
        show some ((δ.set v .un).set v (.val d)) = _
        rw [List.set_set]
      rw [lcD, if_pos no, st]
      dsimp only [pureM]
      rw [ev]
      dsimp only
      have er : restD δ ((δ.set v (.val d)).set i (.own [.int x1, .int y1, .int z1])) [v] = δ.set i (.own [.int x1, .int y1, .int z1]) := by
        apply List.ext_getElem?
        intro j
        rw [restD_get]
        by_cases hj : j = v
        · subst hj
          rw [if_pos (by simp), List.getElem?_set_ne hiv, List.getElem?_set_ne hiv, List.getElem?_set]
          by_cases hl : j < δ.length
          · simp [hl]
          · simp [hl]
        · rw [if_neg (by simpa using hj)]
          by_cases hi : i = j
          · subst hi
            rw [List.getElem?_set_self (by simpa using hl), List.getElem?_set_self hl]
          · rw [List.getElem?_set_ne hi, List.getElem?_set_ne hi, List.getElem?_set_ne (Ne.symm hj)]
      rw [er, h3]
      dsimp only
      rw [List.set_set]
theorem lcM_dice {i v : Nat} {fe : M D} {P : D → Prop} {items : M (List D)} {δ δ1 : De} {ds : List D} {x y z : Int} (hiv : i ≠ v) (hf : ∀ (δ : De) (x y z : Int), ownAt δ i = some [.int x, .int y, .int z] → ∃ (d : D) (x' y' z' : Int), P d ∧ fe δ = some (.ok d (δ.set i (.own [.int x', .int y', .int z']))))
    (hi : items δ = some (.ok ds δ1)) (hl : ds.length < 1000000) (h : ownAt δ1 i = some [.int x, .int y, .int z]) (hv : ownAt δ1 v = none) :
    ∃ (es : List D) (x' y' z' : Int), es.length = ds.length ∧ (∀ e ∈ es, P e) ∧ lcM [v] (bName v) (pureM true) fe items δ = some (.ok (.lst es) (δ1.set i (.own [.int x', .int y', .int z']))) := by
  obtain ⟨es, x', y', z', h1, h2, h3⟩ := dice_lc hiv hf ds δ1 x y z h hv
  refine ⟨es, x', y', z', h1, h2, ?_⟩
  unfold lcM
  rw [bindM_ok hi, if_pos hl, bindM_ok h3]
  rfl
end FL

set_option Elab.async false
set_option linter.all false
set_option maxRecDepth 100000
set_option maxHeartbeats 2000000
/-! FL13: lambdas that are kept and called later. -/
namespace FL
open PySem PySem.Spec PyProof.Rows L2
theorem clo_nil {cells : List (Str × Addr)} {names : List (Str × NameKind)} (h : ∀ y ∈ names, y.2 ≠ .free) : cloFrom cells names [] = [] := by
  refine List.eq_nil_iff_forall_not_mem.mpr fun z hz => ?_
  rcases cloFrom_mem (n := z.1) (c := z.2) hz with q | ⟨q, _⟩
  · cases q
  · exact h _ q rfl
theorem lamO_ok {P : Program} {w : World} {H : Hp} {h : Heap} {L : Lam} {f c' : Addr} {pm ctv : Value} (e : h.get? f = some (PySem.W.kla_obj "<lambda>" L.q L.params L.body L.scope [] pm c' ctv)) : ObjOk P w H h f (LamO L f c') :=
  ⟨⟨pm, ctv, e⟩, ⟨_, e⟩, fun _ _ ⟨a, b, z⟩ st => ⟨a, b, st _ z⟩⟩
section
variable {X : Cx} {pins : List (Addr × Obj)} {σ : L2.St} {H : Hp} {s : Shared}
/-- the lambda is made, and known from then on -/
theorem mk_lam (ix : Nat) {T : List (Addr × Str)} {C P : Addr} {params : Arguments} {body : Expr} {scope : Scope} {pos : Pos} {Ex Q : Value → Shared → Prop} (I : Inv X pins σ H s) (B : LamX.TabB X.base X.mg C P) (hco : X.env.code = .ref C)
    (inT : (P, X.env.qual ++ "<lambda>") ∈ T) (one : ∀ p ∈ T, p.1 = P → p.2 = X.env.qual ++ "<lambda>") (tabs : LamX.Tabs T H) (nd : defaultsOf params X.env = ([], [])) (nf : ∀ y ∈ scope.names, y.2 ≠ .free)
    (k : ∀ (f c' : Addr) (H1 : Hp) (s' : Shared), Inv X pins σ (upd H1 f (LamO ⟨params, body, scope, X.env.qual ++ "<lambda>", ix⟩ f c')) s' → LamX.ExtN H H1 → LamX.Tabs T H1 → H1 f = none → H1 c' = some (LamX.CodeO c' (X.env.qual ++ "<lambda>")) → Q (.ref f) s') :
    wpAny (model X.prog X.w) X.A (eval (.Lambda params body scope pos) X.env) Q Ex s := by
  obtain ⟨ps, tP, tri, am⟩ := tabs _ inT
  have cl0 : closureFor scope X.env = pure [] := by
    rw [← clo_nil (cells := X.env.cells) nf]
    exact closure_ok fun y hy e => absurd e (nf y hy)
  have sP := I.hok P _ tP
  apply PySem.W.kla_eval nd
  cases found : codeAmong pos ps.toList with
  | some cv =>
    obtain ⟨c', e, hk⟩ := am pos cv found
    subst e
    apply PySem.W.kla_makeFunctionHit (mg := X.mg) (c := C) (P := P) (ps := ps) cl0 I.ok.glob (I.mod.glob.keeps I.bk) hco (B.code.keeps I.bk) sP tri found (B.bm.keeps I.bk)
    intro ctv h' tk ext big
    have J := I.laid (a := h'.objs.size) (o := LamO ⟨params, body, scope, X.env.qual ++ "<lambda>", ix⟩ h'.objs.size c') (t' := tk) (h' := h'.push (PySem.W.kla_obj "<lambda>" (X.env.qual ++ "<lambda>") params body scope [] ((X.mg "__name__").getD .none) c' ctv))
      (fun b o e => Heap.get?_push_of_some _ (ext b o e)) big (lamO_ok (Heap.get?_push_size _ rfl))
    exact k _ c' H _ J (.refl H) tabs (I.hok.fresh big) hk
  | none =>
    apply PySem.W.kla_makeFunction (mg := X.mg) (c := C) (P := P) (ps := ps) cl0 I.ok.glob (I.mod.glob.keeps I.bk) hco (B.code.keeps I.bk) sP tri found B.gP (B.bm.keeps I.bk)
    intro c' ctv h' tk ext ge lt rec tb
    obtain ⟨c2, oc, vs, t, e2, r1, r2, r3⟩ := rec
    cases e2
    have big : s.heap.objs.size ≤ h'.objs.size := Nat.le_trans ge (Nat.le_of_lt lt)
    have nC : H c' = none := I.hok.fresh ge
    have J := LamX.inv_table (t' := tk) (more := #[rawInt pos.line, rawInt pos.col, .ref c']) I tP ext tb ge ⟨oc, vs, t, r1, r2, r3⟩
    have J2 := J.laid (a := h'.objs.size) (o := LamO ⟨params, body, scope, X.env.qual ++ "<lambda>", ix⟩ h'.objs.size c') (t' := tk) (h' := h'.push (PySem.W.kla_obj "<lambda>" (X.env.qual ++ "<lambda>") params body scope [] ((X.mg "__name__").getD .none) c' ctv))
      (fun b o e => Heap.get?_push_of_some _ e) (Nat.le_refl _) (lamO_ok (Heap.get?_push_size _ rfl))
    have grow : LamX.ExtN H (upd (upd H P (.tbl (ps ++ #[rawInt pos.line, rawInt pos.col, .ref c']))) c' (LamX.CodeO c' (X.env.qual ++ "<lambda>"))) := fun b o e n => by
      have nP : b ≠ P := fun z => by subst z; rw [tP] at e; exact n ps (Option.some.inj e).symm
      rw [upd_ne (ne_of_none e nC), upd_ne nP, e]
    refine k _ c' _ _ J2 grow (fun p hp => ?_) (J.hok.fresh (Nat.le_refl _)) upd_same
    have toL : (ps ++ #[rawInt pos.line, rawInt pos.col, .ref c']).toList = ps.toList ++ [rawInt pos.line, rawInt pos.col, .ref c'] := by simp
    by_cases hb : p.1 = P
    · have pc : P ≠ c' := ne_of_none tP nC
      rw [hb, one p hp hb]
      refine ⟨ps ++ #[rawInt pos.line, rawInt pos.col, .ref c'], by rw [upd_ne pc, upd_same], ?_, fun p' cv e => ?_⟩
      · rw [toL]; exact PySem.TriplesOk_snoc _ _ _ _ tri
      · rw [toL] at e
        rcases LamX.among_app _ tri e with z | z
        · obtain ⟨d, d1, d2⟩ := am p' cv z
          exact ⟨d, d1, grow _ _ d2 LamX.codeO_ne⟩
        · exact ⟨c', z, upd_same⟩
    · obtain ⟨qs, a1, a2, a3⟩ := tabs p hp
      refine ⟨qs, by rw [upd_ne (ne_of_none a1 nC), upd_ne hb]; exact a1, a2, fun p' cv e => ?_⟩
      obtain ⟨d, d1, d2⟩ := a3 p' cv e
      exact ⟨d, d1, grow _ _ d2 LamX.codeO_ne⟩
end
def tMk (T : List (Addr × Str)) (L : Lam) : TE := fun _ H Q => LamX.Tabs T H ∧ ∀ (H1 : Hp) (f c' : Addr), LamX.ExtN H H1 → LamX.Tabs T H1 → H1 f = none → H1 c' = some (LamX.CodeO c' L.q) → Q (.ref f) (upd H1 f (LamO L f c'))
theorem pe_mk (ix : Nat) {X : Cx} {T : List (Addr × Str)} {C P : Addr} {params : Arguments} {body : Expr} {scope : Scope} {pos : Pos} (B : LamX.TabB X.base X.mg C P) (hco : X.env.code = .ref C)
    (inT : (P, X.env.qual ++ "<lambda>") ∈ T) (one : ∀ p ∈ T, p.1 = P → p.2 = X.env.qual ++ "<lambda>") (nd : defaultsOf params X.env = ([], [])) (nf : ∀ y ∈ scope.names, y.2 ≠ .free) :
    PE X (.Lambda params body scope pos) (tMk T ⟨params, body, scope, X.env.qual ++ "<lambda>", ix⟩) :=
  ⟨fun pins s σ H Q I h => mk_lam ix I B hco inT one h.1 nd nf fun f c' H1 s' J eN T1 fr hc => ⟨.ref f, _, J, rfl, h.2 H1 f c' eN T1 fr hc⟩⟩
/-- a known object is kept by the def too -/
theorem S.know {K : PySem.W.Frag} {T : List (Addr × PySem.Str)} {F G H : Hp} {σ : L2.St} {δ : De} (s : S (K, T) F σ G H δ) (hT : T ≠ []) {p : Addr} {o : HO} (h : H p = some o) (nl : ∀ xs, o ≠ .lst xs) (nt : ∀ ps, o ≠ .tbl ps) : S (K, T) F σ (upd G p o) H δ := by
  have sg : Same G (upd G p o) := fun b x e => by
    by_cases hb : b = p
    · subst hb; rw [upd_same, ← h]; exact s.sub _ _ e
    · rw [upd_ne hb]; exact e
  refine ⟨fun b x e => ?_, s.frm, fun b x e => ?_, s.len, fun i d e => ?_, fun i xs e => ?_, s.inj, s.tab, fun x hx => ⟨(s.tnf x hx).1, ?_⟩, fun b ps e => ?_, s.ntf⟩
  · by_cases hb : b = p
    · subst hb; rw [upd_same] at e; rw [← e]; exact h
    · rw [upd_ne hb] at e; exact s.sub _ _ e
  · have nb : b ≠ p := fun z => by
      subst z
      obtain ⟨xs, q⟩ := s.ntf.resolve_left hT b x e
      have := s.frm _ _ e
      rw [h] at this; cases this
      exact nl xs q
    rw [upd_ne nb]; exact s.dis _ _ e
  · obtain ⟨v, h1, h2⟩ := s.val i d e
    exact ⟨v, h1, h2.mono sg⟩
  · obtain ⟨q, vs, h1, h2, h3, h4, h5⟩ := s.own i xs e
    have nb : q ≠ p := fun z => by subst z; rw [h] at h2; cases h2; exact nl vs rfl
    exact ⟨q, vs, h1, h2, h3.mono sg, by rw [upd_ne nb]; exact h4, h5⟩
  · obtain ⟨ps, hp⟩ := s.tab_at hx
    have nb : x.1 ≠ p := fun z => by rw [z, h] at hp; cases hp; exact nt ps rfl
    rw [upd_ne nb]; exact (s.tnf x hx).2
  · by_cases hb : b = p
    · subst hb; rw [upd_same] at e; cases e; exact nt ps rfl
    · rw [upd_ne hb] at e; exact s.ntg b ps e
section
variable {c : SC}
/-- lambda: e, kept -/
theorem fe_lam (ix : Nat) {C Pt : Addr} {params : Arguments} {body : Expr} {scope : Scope} {pos : Pos} (L : LamD c C Pt) (nd : ∀ env : Env, defaultsOf params env = ([], []) := by intro _; rfl) (nf : scope.names.all (fun y => !decide (y.2 = .free)) = true := by rfl) :
    FE c (.Lambda params body scope pos) (pureM (.fn ⟨params, body, scope, c.qual ++ "<lambda>", ix⟩)) := by
  have hT : c.T ≠ [] := by rw [L.T]; simp
  have nf' : ∀ y ∈ scope.names, y.2 ≠ .free := fun y hy => by simpa using List.all_eq_true.mp nf y hy
  refine ⟨tMk c.T ⟨params, body, scope, c.qual ++ "<lambda>", ix⟩, fun X h => ?_, fun F σ G H δ r s e Q p => ?_⟩
  · obtain ⟨h1, h2⟩ := h.code.resolve_left hT
    have q := pe_mk ix (X := X) (T := c.T) (C := C) (P := Pt) (params := params) (body := body) (scope := scope) (pos := pos) (by rw [h.base, h.mg]; exact L.tb) (by rw [h1]; exact L.code) (by rw [h2, L.T]; simp)
      (fun x hx _ => by rw [L.T] at hx; rw [h2]; simp only [List.mem_singleton] at hx; rw [hx]) (nd _) nf'
    rw [h2] at q
    exact q
  · cases e
    refine ⟨s.tab, fun H1 f c' eN T1 fr hc => ?_⟩
    have s1 := (s.extN hT eN T1).know hT hc (fun xs z => by cases z) (fun ps z => by cases z)
    have s2 := s1.new (o := LamO ⟨params, body, scope, c.qual ++ "<lambda>", ix⟩ f c') fr
    have g : Same G (upd (upd G c' (LamX.CodeO c' (c.qual ++ "<lambda>"))) f (LamO ⟨params, body, scope, c.qual ++ "<lambda>", ix⟩ f c')) := fun b o e => by
      have e1 := (s.extN hT eN T1).sub _ _ e
      have nb : b ≠ f := ne_of_none e1 fr
      rw [upd_ne nb]
      by_cases hb : b = c'
      · subst hb; rw [upd_same, ← hc]; exact e1
      · rw [upd_ne hb]; exact e
    refine p _ _ _ s2 g (.fn (c' := c') upd_same ?_)
    have nb : c' ≠ f := ne_of_none hc fr
    rw [upd_ne nb, upd_same]
end
end FL

set_option Elab.async false
set_option linter.all false
set_option maxRecDepth 100000
set_option maxHeartbeats 2000000
/-! FL14: the call of a kept lambda by the def that tells. -/
namespace FL
open PySem PySem.Spec PyProof.Rows L2
section
variable {X : Cx} {pins : List (Addr × Obj)} {σ : L2.St} {H : Hp} {s : Shared}
/-- a(), in the def that got a kept lambda -/
theorem pe_actK {CXg : CXT} {Eg : XK} {Ng : List Str} {qg : Str} {sg : Scope} {g f c' : Addr} {cdg : Value} {L : Lam} {k i : Nat} {a : Str} {pn : List (Addr × Obj)} {xe : Value → Shared → Prop} {W : WX} {E : XK} {tb : TE} {p1 p2 : Pos}
    (I : Inv X pins σ H s) (hq : L.q = X.env.qual ++ "<lambda>") (hL : LamX.LamS X.env.scope L.scope) (nf : ∀ y ∈ L.scope.names, y.2 ≠ .free)
    (hbind : ∀ pm cv ctv : Value, bindArgs (PySem.W.kla_fn "<lambda>" L.q L.params L.body L.scope [] pm cv ctv) ⟨[], []⟩ = pure [])
    (tk : Takes ((cxOf CXg X.prog X.w X.K X.mg X.base Ng qg sg g cdg X.A X.stack s H Eg).tr pn xe) W) (hW : ∀ cls d σ' H', E cls d H' → W cls d σ' H') (hr : Room (k + 1) (X.A.deeper (envOfC qg sg s.heap.objs.size g cdg)))
    (hbody : ∀ (A : Around) (outer : List Env) (s : Shared) (H : Hp), Room k (A.deeper (LamX.lamEnv X L.scope s.heap.objs.size f c')) → PE (LamX.lamCx X A outer s H E L.scope f c') L.body tb)
    (hN : Ng[i]? = some a) (hv : Vis sg a) (hd : (a == ("__debug__" : Str)) = false := by decide) (hcd : (a == ("__classdict__" : Str)) = false := by decide) :
    PE ((cxOf CXg X.prog X.w X.K X.mg X.base Ng qg sg g cdg X.A X.stack s H Eg).tr pn xe) (.Call (.Name a p1) [] [] p2)
      (fun σZ HZ Q => σZ[i]? = some (some (.ref f)) ∧ HZ c' = some (LamX.CodeO c' L.q) ∧ HZ f = some (LamO L f c') ∧ tb σ HZ Q) := by
  have cl0 : cloFrom X.env.cells L.scope.names [] = [] := clo_nil nf
  refine ⟨fun pinsZ sZ σZ HZ Q IZ ⟨hs, hc, hf, ht⟩ => ?_⟩
  apply wpAny_Call_Name_kw
  refine thn ((pe_var (pos := p1) (i := i) hN hv hd hcd).run pinsZ sZ σZ HZ (fun v H1 => v = .ref f ∧ H1 = HZ) IZ ⟨.ref f, hs, rfl, rfl⟩) ?_
  rintro u s1 ⟨v, H1, J, rv, ev, eH⟩
  subst ev
  subst eH
  obtain rfl : u = Value.ref f := rv
  obtain ⟨⟨pm, ctv, hfn⟩, _, _⟩ := J.hok f _ hf
  obtain ⟨⟨oc, vs, t, k1, k2, k3⟩, _, _⟩ := J.hok c' _ hc
  have bind2 := hbind pm (.ref c') ctv
  rw [← cl0, hq] at hfn bind2
  rw [hq] at k3
  refine PySem.W.callWith_F0 ⟨_, _, _, _, hfn⟩ ?_
  have un : Un (frs X.stack) [] H H1 s.heap s1.heap := J.base
  have px : Passes (L2.CX X.prog X.w) ((cxOf CXg X.prog X.w X.K X.mg X.base Ng qg sg g cdg X.A X.stack s H Eg).tr pn xe) E := passes_call tk hW
  have run : codeAny (model X.prog X.w) (X.A.deeper (envOfC qg sg s.heap.objs.size g cdg)) (.call (.ref f) ⟨[], []⟩) (CR (L2.CX X.prog X.w) (envOfC qg sg s.heap.objs.size g cdg :: X.stack) X.prog X.w H1 s1 Q E) s1 := by
    apply PySem.W.kla_callFunE hr.depth hfn rfl hL.co hL.gen rfl ⟨c', oc, vs, t, rfl, k1, k2, k3⟩
    rw [bind2]
    apply wpAny_pure
    refine wpAny_newFunctionEnv (fun y hy => (hL.own y hy).2) (fun y hy => nomatch hy) (fun h₁ hns hsb => ⟨J.nolimit.fresh _ hsb, ?_⟩) hL.kind
    have older : ∀ b o, s1.heap.get? b = some o → h₁.get? b = some o := fun b o e => hsb.extBut b o (Nat.ne_of_lt (Heap.lt_size e)) (Heap.get?_push_of_some _ e)
    have J1 : Inv (LamX.lamCx X (X.A.deeper (envOfC qg sg s.heap.objs.size g cdg)) (envOfC qg sg s.heap.objs.size g cdg :: X.stack) s1 H1 E L.scope f c') [] σ H1 { s1 with heap := h₁, toks := s1.toks + ([] : List (Str × Value)).length } := LamX.lam_start2 I hL J.env0 hr.hd un hns older
    apply PySem.W.kla_codeExpr
    have step := (hbody _ _ s1 H1 (hr.deeper _)).run [] _ _ H1 Q J1 ht
    have step2 := wpAny_mono step (Q' := CE (envOfC qg sg s.heap.objs.size g cdg :: X.stack) X.prog X.w H1 s1 Q) (fun v s' ⟨w', H', J', rv, q⟩ => ⟨w', H', J'.os, J'.bare, J'.base, J'.hok, rv, q⟩) (fun _ _ q => q)
    exact step2
  refine wpAny_call (codeAny_mono run fun r s' q => ?_)
  match r, q with
  | .error e, q => exact px pinsZ σZ H1 s1 e s' J q
  | .ok (.ret u), q => exact J.after q
  | .ok .next, q => exact q.elim
  | .ok .brk, q => exact q.elim
  | .ok .cont, q => exact q.elim
end

/-- the def that tells, given a kept lambda; B: which lambdas are served, and their bodies' readings -/
theorem pe_toldK {X : Cx} {TT : (XK → Hp → VK → Prop) → Hp → VK → Prop} {x a : Str} {g : Addr} {k : Nat} {pg : Arguments} {bg : List Stmt} {sg : Scope} {dV kV doc pm cdv ct oc : Value} {an od : Option Addr} {osl : Array (Option Value)} {Ng : List Str} {e : Expr} {t : TA} {p pos : Pos}
    (hg : Gl X x) (hm : X.mg x = some (.ref g)) (hk : PySem.W.keepIn X.K (.ref g) = true) (lk : X.K.lookup g = some ⟨oc, od, .func (PySem.W.fnOf x x pg bg sg dV kV doc pm an cdv ct), osl⟩) (hcg : PySem.W.codeIn X.K cdv x = true)
    (hb : L2.Binds X.K (PySem.W.fnOf x x pg bg sg dV kV doc pm an cdv ct) [a] []) (Sg : FnScope Ng [a] sg) (hNg : Ng[0]? = some a) (hva : Vis sg a) (hG : LamX.GivesTo X Ng x sg g cdv bg a (X.env.qual ++ "<lambda>") TT) (hr : Room (k + 2) X.A)
    (ha : PA X [e] t) (B : Lam → (XK → TE) → Prop)
    (hB : ∀ L tb, B L tb → L.q = X.env.qual ++ "<lambda>" ∧ LamX.LamS X.env.scope L.scope ∧ (∀ y ∈ L.scope.names, y.2 ≠ .free) ∧ (∀ pm cv ctv : Value, bindArgs (PySem.W.kla_fn "<lambda>" L.q L.params L.body L.scope [] pm cv ctv) ⟨[], []⟩ = pure []) ∧
      ∀ (A : Around) (outer : List Env) (s : Shared) (H : Hp) (E : XK) (f c' : Addr), Room k (A.deeper (LamX.lamEnv X L.scope s.heap.objs.size f c')) → PE (LamX.lamCx X A outer s H E L.scope f c') L.body (tb E))
    (hdb : (x == ("__debug__" : Str)) = false := by decide) (hd : (a == ("__debug__" : Str)) = false := by decide) (hcd : (a == ("__classdict__" : Str)) = false := by decide)
    (he : starEach [e] X.env = (false, eval e X.env) :: starEach [] X.env := by rfl) (hpl : (backTo pos (starEach [] X.env)).any (·.1) = false := by rfl) :
    PE X (.Call (.Name x p) [e] [] pos) (fun σ H Q => t σ H fun vs H1 => ∃ (f c' : Addr) (L : Lam) (tb : XK → TE), B L tb ∧ vs = [.ref f] ∧ H1 f = some (LamO L f c') ∧ H1 c' = some (LamX.CodeO c' L.q) ∧ TT (fun E H' Q' => H' f = some (LamO L f c') ∧ tb E σ H' Q') H1 Q) := by
  refine ⟨fun pins s σ H Q I h => ?_⟩
  apply wpAny_Call_Name_kw
  refine ld_glob I hg hm ?_ hdb
  refine PySem.W.callWith_K (h₀ := X.base) I.ok.mod.kin hk (thn (ha.run pos pins s σ H _ I h) ?_) he hpl
  rintro us s1 ⟨vs, H1, J, r, f, c', L, tb, hbl, rfl, hf, hc, ht⟩
  refine ⟨J.kIn, ?_⟩
  obtain ⟨hq, hL, nf, hbind, hbody⟩ := hB L tb hbl
  obtain ⟨u, rfl, ru⟩ := vals1 r
  obtain rfl : u = Value.ref f := ru
  have run : codeAny (model X.prog X.w) X.A (.call (.ref g) ⟨[.ref f], []⟩) (CR C8.CX0 X.stack X.prog X.w H1 s1 Q C8.E0) s1 := by
    refine LamX.run_ofS (N := Ng) (ps := [a]) (us := [.ref f]) (vs := [.ref f]) lk hcg Sg hr J.env0 (hb s1 [.ref f] J.kIn rfl) (.cons rfl .nil) rfl fun hr2 => ?_
    obtain ⟨t2, p2, q2⟩ := hG f c' s1 H1 Q (fun E H' Q' => H' f = some (LamO L f c') ∧ tb E σ H' Q')
      (fun W pn xe E p1 p2 tk hW => by
        have := pe_actK (i := 0) (f := f) (c' := c') (p1 := p1) (p2 := p2) J hq hL nf hbind tk hW hr2 (fun A outer s H hr3 => hbody A outer s H E f c' hr3) hNg hva hd hcd
        rw [hq] at this
        exact this)
      (by rw [← hq]; exact hc) ht
    exact ⟨t2, p2.nox, q2⟩
  refine wpAny_call (codeAny_mono run fun r s' q => ?_)
  match r, q with
  | .error e, q => exact (show False from q).elim
  | .ok (.ret u), q => exact J.after q
  | .ok .next, q => exact q.elim
  | .ok .brk, q => exact q.elim
  | .ok .cont, q => exact q.elim
/-- what is known of a kept lambda where it is called -/
structure LamOk (c : SC) (k : Nat) (L : Lam) (f : M D) : Prop where
  q : L.q = c.qual ++ "<lambda>"
  sb : LamX.lamSB c.sc L.scope = true
  nf : L.scope.names.all (fun y => !decide (y.2 = .free)) = true
  bind : ∀ pm cv ctv : Value, bindArgs (PySem.W.kla_fn "<lambda>" L.q L.params L.body L.scope [] pm cv ctv) ⟨[], []⟩ = pure []
  body : ∀ E, FE (lamSC c L.scope k E) L.body f
open Classical in
noncomputable def toldK (nl : List (Nat × Str)) (lt : List (Lam × M D)) (f : M D) : M D := bindM f fun d δ => match d with
  | .fn L => match lt[L.ix]? with
    | some p => if p.1 = L then toldM nl p.2 δ else none
    | none => none
  | _ => none
theorem fe_toldK (k : Nat) {c : SC} {C Pt : Addr} {nl : List (Nat × Str)} {lt : List (Lam × M D)} {e : Expr} {f : M D} {p pos : Pos} (Td : ToldD c.P c.w c.K c.mg c.base c.cl nl) (LD : LamD c C Pt) (hl : ∀ x ∈ lt, LamOk c k x.1 x.2) (he : FE c e f)
    (hk : Nat.ble (k + 2) c.k = true := by rfl) (hg : Gb c "_law_told" := by rfl) (hs : ∀ env : Env, starEach [e] env = (false, eval e env) :: starEach [] env := by intro _; rfl) (hpl : ∀ env : Env, (backTo pos (starEach [] env)).any (·.1) = false := by intro _; rfl) :
    FE c (.Call (.Name "_law_told" p) [e] [] pos) (toldK nl lt f) := by
  obtain ⟨g, sg, Ng, pg, dV, kV, doc, pm, cdv, ct, oc, an, od, osl, p1, p2, p3, p8, h₀, hds, q1, q2, q3, q4, q5, q6, q7, q8, q9, q10⟩ := Td.ex
  have hT : c.T ≠ [] := by rw [LD.T]; simp
  obtain ⟨te, pe, se⟩ := he.ex
  let B : Lam → (XK → TE) → Prop := fun L tb => ∃ f, (L, f) ∈ lt ∧ ∀ E, (∀ X, In (lamSC c L.scope k E) X → PE X L.body (tb E)) ∧ Sp2 (lamSC c L.scope k E).κ c.cl E (Rep c.K) (tb E) f
  refine ⟨fun σ H Q => tCons te tNil σ H fun vs H1 => ∃ (f c' : Addr) (L : Lam) (tb : XK → TE), B L tb ∧ vs = [.ref f] ∧ H1 f = some (LamO L f c') ∧ H1 c' = some (LamX.CodeO c' L.q) ∧ TTm c.K (nl.map fun p => (c.cl p.1, p.2)) (fun E H' Q' => H' f = some (LamO L f c') ∧ tb E σ H' Q') H1 Q, fun X h => ?_, fun F σ G H δ r s e Q p => ?_⟩
  · obtain ⟨hc1, hc2⟩ := h.code.resolve_left hT
    have hG : LamX.GivesTo X Ng "_law_told" sg g cdv [.Try [.Return (some (.Call (.Name "what" p1) [] [] p2)) p3] (h₀ :: hds) [] [] p8] "what" (X.env.qual ++ "<lambda>") (TTm X.K (nl.map fun p => (c.cl p.1, p.2))) := gives_many (by rw [h.mg]; exact q9) q10
    rw [h.K] at hG
    exact pe_toldK (k := k) (show X.env.scope.names.lookup _ = _ by rw [h.sc]; exact hg) (by rw [h.mg]; exact q1) (by rw [h.K]; exact q2) (by rw [h.K]; exact q3) (by rw [h.K]; exact q4) (by rw [h.K]; exact q5) q6 q7 q8 hG (h.room.mono (Nat.le_of_ble_eq_true hk))
      (pa_cons (pe X h) pa_nil (hs _)) B (fun L tb ⟨f, hm, hf⟩ => by
        have lo := hl _ hm
        refine ⟨by rw [hc2]; exact lo.q, LamX.lamS_by (by rw [h.sc]; exact lo.sb), fun y hy => by simpa using List.all_eq_true.mp lo.nf y hy, lo.bind, fun A outer s H E f c' hr => (hf E).1 _ (in_lam h A outer s H f c' hr)⟩) (he := hs _) (hpl := hpl _)
  · refine se.step s e p fun G1 H1 δ1 v d s1 g1 rv e1 p1 => ?_
    cases d with
    | fn L =>
      cases rv with
      | @fn f c' L a1 a2 =>
        dsimp only at e1
        cases hi : lt[L.ix]? with
        | none => rw [hi] at e1; cases e1
        | some x =>
          rw [hi] at e1
          dsimp only at e1
          split at e1
          · rename_i ex
            obtain ⟨L0, m⟩ := x
            have ex : L0 = L := ex
            subst ex
            have hm : (L0, m) ∈ lt := List.mem_of_getElem? hi
            have lo := hl _ hm
            refine ⟨f, c', L0, fun E => Classical.choose (lo.body E).ex, ⟨m, hm, fun E => Classical.choose_spec (lo.body E).ex⟩, rfl, s1.sub _ _ a1, s1.sub _ _ a2, ?_⟩
            have s2 := s1.hide
            unfold toldM at e1
            dsimp only at e1
            cases hf : m (hideOwn δ1) with
            | none => rw [hf] at e1; cases e1
            | some rr =>
              rw [hf] at e1
              have bs : ∀ b o, besides G1 H1 b = some o → G1 b = none ∧ H1 b = some o := fun b o e => by
                unfold besides at e
                split at e
                · cases e
                · rename_i q; exact ⟨q, e⟩
              refine ⟨s1.sub _ _ a1, ?_⟩
              refine (Classical.choose_spec (lo.body (Ech c.K Q (nl.map fun p => (c.cl p.1, p.2)))).ex).2 _ σ G1 H1 _ rr s2 hf Q ?_
              cases rr with
              | ok d δ' =>
                cases e1
                exact fun G' H' v s' g' rv => p1 G' H' v (s1.after g' s'.sub s'.frm s'.dis s'.ntg) g' rv
              | ex n =>
                dsimp only at e1
                cases hn : toldName nl n with
                | none => rw [hn] at e1; cases e1
                | some w =>
                  rw [hn] at e1
                  cases e1
                  intro G' H' g' h' f'
                  refine ech_of hn (fun j hj => Td.exm n j (toldName_mem hn) hj) ?_
                  exact p1 G1 H' _ (s1.after (Same.refl _) (g'.trans h') f' (fun b o q => (bs b o q).1) s1.ntg) (Same.refl _) (.str _)
          · cases e1
    | _ => cases e1
end FL

set_option Elab.async false
set_option linter.all false
set_option maxRecDepth 100000
set_option maxHeartbeats 2000000
/-! FL15: sorted of a list or a tuple of data. -/
namespace FL
open PySem PySem.Spec PyProof.Rows L2 PySem.W
section
variable {prog : Program} {w : World} {A : Around} {Ex : Value → Shared → Prop} {s : Shared} {β : Type} {vs : List Value} {bs : List β} {enc : β → PyData} {R : Value → β → Prop}
/-- the heap with a new list of the items vs -/
def heldH (h : Heap) (vs : List Value) : Heap := (h.push (seqObj "list" #[] 0)).update h.objs.size (Obj.mapSeq (· ++ vs.toArray))
theorem heldH_size (h : Heap) (vs : List Value) : (heldH h vs).objs.size = h.objs.size + 1 := by unfold heldH; rw [Heap.size_update, size_push']
theorem collect_seq2 {l : Addr} {T : String} {o : Obj} {n : Nat} {Q : List Value → Shared → Prop} (hT : T = "list" ∨ T = "tuple") (ho : s.heap.get? l = some o) (hc : o.cls = .type T) (hd : o.data = .seq vs.toArray n) (lv : vs.length ≤ sizeLine)
    (k : Q vs { s with heap := heldH s.heap vs }) : wpAny (model prog w) A (collect (.ref l)) Q Ex s := by
  have bare : (s.heap.push { cls := .type "list", data := .seq ([] : List Value).toArray }).get? s.heap.objs.size = some { cls := .type "list", data := .seq #[] 0 } := Heap.get?_push_size _ rfl
  have full := Heap.get?_update_self (Obj.mapSeq (· ++ vs.toArray)) bare rfl
  have tail : wpAny (model prog w) A (match Value.ref s.heap.objs.size with
      | Value.ref a => do match (← load a).data with
          | Data.seq xs _ => pure xs.toList
          | _ => unsupported "internal:collect"
      | _ => unsupported "internal:collect") Q Ex { s with heap := heldH s.heap vs } := by
    apply wpAny_bind (wpAny_load full _)
    apply wpAny_pure
    show Q ((#[] : Array Value) ++ vs.toArray).toList _
    rw [show ((#[] : Array Value) ++ vs.toArray).toList = vs by simp]
    exact k
  unfold collect
  apply wpAny_bind
  apply wpAny_runValue
  apply codeAny_builtin PySem.F.entry_proto_collect
  rw [Around.under_plainId PySem.F.plain_proto_collect _]
  apply wpAny_bind
  refine wpAny_newObj_type (Q := _) ?_
  apply wpAny_pure
  refine ⟨plainId_quiet PySem.F.plain_list_iadd _, codeAny_builtin PySem.F.entry_list_iadd ?_⟩
  rw [Around.under_plainId PySem.F.plain_list_iadd _]
  have run := wpAny_extend_seq (prog := prog) (w := w) (A := A) (s := { s with heap := s.heap.push { cls := .type "list", data := .seq ([] : List Value).toArray } }) (R := fun r s' => r = .ok (.ret (.ref s.heap.objs.size)) ∧ s' = { s with heap := heldH s.heap vs })
    s.heap.objs.size l (.ref s.heap.objs.size) 0 hT bare (Heap.get?_push_of_some _ ho) hc hd ⟨rfl, rfl⟩ (by simpa using lv)
  refine wpAny_mono run (fun f s' z => ?_) (fun e s' z => nomatch z.1)
  match f, z with
  | .done g, ⟨z1, z2⟩ =>
    subst z2
    cases z1
    exact tail
  | .again c', ⟨z1, z2⟩ =>
    refine ⟨z1, codeAny_mono z2 fun r s2 ⟨y1, y2⟩ => ?_⟩
    subst y1 y2
    exact tail
theorem sorted_seq {l : Addr} {T : String} {o : Obj} {n : Nat} {Q : Value → Shared → Prop} (hT : T = "list" ∨ T = "tuple") (ho : s.heap.get? l = some o) (hc : o.cls = .type T) (hd : o.data = .seq vs.toArray n) (e : EachIs R vs bs)
    (er : EachIs (fun v b => ∃ as, Reads s.heap v (enc b) as) vs bs) (hal : AllAlike (bs.map enc)) (hk : Sortable (bs.map enc)) (hL : bs.length ≤ sizeLine) (hu : ∀ b, b ∈ bs → A.units + 2 + (enc b).depth < cLine)
    (h : ∀ (out : List Value) (h' : Heap) (a : Addr) (m : Nat), EachIs R out (bs.mergeSort (dataLe false enc)) → (∀ b u, s.heap.get? b = some u → h'.get? b = some u) → s.heap.objs.size ≤ a → h'.get? a = some (seqObj "list" out.toArray m) → Q (.ref a) { s with heap := h' }) :
    wpAny (model prog w) A (call (.builtin "sorted") [.ref l]) Q Ex s := by
  have lv : vs.length ≤ sizeLine := by rw [e.length]; exact hL
  apply Calls.call_function_entry kind_sorted plain_sorted entry_sorted (args_sorted1 _)
  unfold Builtin.«sorted»
  apply wpAny_bind (m := checkCount "sorted" 1 1 _)
  apply wpAny_pure
  refine wpAny_bind (collect_seq2 hT ho hc hd lv ?_)
  have ext : ∀ b u, s.heap.get? b = some u → (heldH s.heap vs).get? b = some u := fun b u q => by
    unfold heldH
    rw [Heap.get?_update_ne _ _ _ _ (Nat.ne_of_lt (Heap.lt_size q))]
    exact Heap.get?_push_of_some _ q
  have sz := heldH_size s.heap vs
  generalize heldH s.heap vs = h1 at ext sz ⊢
  refine wpAny_bind (wpAny_newList ?_ (by simpa using lv))
  have at1 : (h1.push (seqObj "list" vs.toArray 0)).get? h1.objs.size = some (seqObj "list" vs.toArray 0) := Heap.get?_push_size _ rfl
  have old1 : ∀ b u, s.heap.get? b = some u → b ≠ h1.objs.size ∧ (h1.push (seqObj "list" vs.toArray 0)).get? b = some u := fun b u q => by
    have q1 := ext b u q
    exact ⟨Nat.ne_of_lt (Heap.lt_size q1), Heap.get?_push_of_some _ q1⟩
  have er' : EachIs (fun v b => ∃ as, Reads (sortingHeap (h1.push (seqObj "list" vs.toArray 0)) h1.objs.size vs) v (enc b) as) vs bs :=
    er.mono fun v b ⟨as, r⟩ => ⟨as, PyProof.Rows.Reads.keeps (fun b u q => sortingHeap_old (old1 b u q).1 (old1 b u q).2) r⟩
  refine wpAny_bind (wpAny_holding (wpAny_call_entry slot_list_sort ⟨_, at1, rfl⟩ entry_list_sort (list_sort_vals (κ := dataKind (sortingHeap (h1.push (seqObj "list" vs.toArray 0)) h1.objs.size vs) (bs.map enc)) at1
    (SortsAt.data (s := { s with heap := sortingHeap (h1.push (seqObj "list" vs.toArray 0)) h1.objs.size vs }) (each_map (R := fun v d => ∃ as, Reads (sortingHeap (h1.push (seqObj "list" vs.toArray 0)) h1.objs.size vs) v d as) enc er') hal hk (bound_map hu)) lv ⟨_, rfl, ?_⟩) (args_list_sort _)))
  refine wpAny_pure ⟨_, rfl, ?_⟩
  obtain ⟨m, hm⟩ : ∃ m, (sortedHeap (h1.push (seqObj "list" vs.toArray 0)) h1.objs.size vs (sortVals (dataKind (sortingHeap (h1.push (seqObj "list" vs.toArray 0)) h1.objs.size vs) (bs.map enc)) false vs vs).toArray).get? h1.objs.size = some (seqObj "list" (sortVals (dataKind (sortingHeap (h1.push (seqObj "list" vs.toArray 0)) h1.objs.size vs) (bs.map enc)) false vs vs).toArray m) := sortedHeap_at at1
  refine h _ _ h1.objs.size m (sortVals_data false e er' hal) (fun b u q => ?_) (by omega) hm
  rw [sortedHeap_old (old1 b u q).1 (Heap.lt_size (old1 b u q).2)]
  exact (old1 b u q).2
end
end FL

set_option Elab.async false
set_option linter.all false
set_option maxRecDepth 100000
set_option maxHeartbeats 2000000
/-! FL16: sorted, by values; gcd. -/
namespace FL
open PySem PySem.Spec PyProof.Rows L2
def pyOf (d : D) : PyData := (toPy d).getD .none
def rSD (K : PySem.W.Frag) : List V → Hp → VK → Prop := fun vs H Q => ∃ (a : Addr) (ps : List (V × D)), vs = [.ref a] ∧ (SqL K H a (ps.map (·.1)) ∨ SqT K H a (ps.map (·.1))) ∧ ps.length ≤ sizeLine ∧ (∀ p ∈ ps, Dp K H p.1 (pyOf p.2)) ∧ PySem.W.AllAlike (ps.map fun p => pyOf p.2) ∧ PySem.W.Sortable (ps.map fun p => pyOf p.2) ∧
  (∀ p ∈ ps, (pyOf p.2).depth ≤ 60) ∧ ∀ l, H l = none → Q (.ref l) (upd H l (.lst ((ps.mergeSort (PySem.W.dataLe false fun p => pyOf p.2)).map (·.1))))
theorem each_of_vals : ∀ {ps : List (V × D)} {us : List Value}, Vals (ps.map (·.1)) us → PySem.W.EachIs (fun u p => RelV p.1 u) us ps
  | [], us, r => by cases r; exact .nil
  | p :: ps, us, r => by
    cases r with
    | cons h t => exact .cons h (each_of_vals t)
theorem vals_of_each : ∀ {ps : List (V × D)} {us : List Value}, PySem.W.EachIs (fun u p => RelV p.1 u) us ps → Vals (ps.map (·.1)) us
  | _, _, .nil => .nil
  | _, _, .cons h t => .cons h (vals_of_each t)
theorem each_reads {h : Heap} : ∀ {ps : List (V × D)} {us : List Value}, PySem.W.EachIs (fun u p => RelV p.1 u) us ps → (∀ p ∈ ps, ∀ u, RelV p.1 u → ∃ as, Reads h u (pyOf p.2) as) → PySem.W.EachIs (fun u p => ∃ as, Reads h u (pyOf p.2) as) us ps
  | _, _, .nil, _ => .nil
  | _, _, .cons h t, k => .cons (k _ (by simp) _ h) (each_reads t fun p hp => k p (by simp [hp]))
theorem cr_sortedD {X : Cx} (hu : X.A.units + 64 < cLine) : CallR X (.builtin "sorted") (rSD X.K) := by
  intro pins s σ H vs us Q I r h
  obtain ⟨a, ps, rfl, hs, hz, hdp, hal, hk, hdep, q⟩ := h
  obtain ⟨u, rfl, ru⟩ := vals1 r
  obtain rfl : u = Value.ref a := ru
  obtain ⟨its, T, o, n, hT, rv, ho, hc, hd⟩ : ∃ (its : List Value) (T : String) (o : Obj) (n : Nat), (T = "list" ∨ T = "tuple") ∧ Vals (ps.map (·.1)) its ∧ s.heap.get? a = some o ∧ o.cls = .type T ∧ o.data = .seq its.toArray n := by
    rcases hs with hs | hs
    · obtain ⟨its, rv, hl, _⟩ := I.list hs
      obtain ⟨o, ho, hc, n, hd⟩ := hl.isList
      exact ⟨its, "list", o, n, .inl rfl, rv, ho, hc, hd⟩
    · obtain ⟨its, rv, p, _⟩ := I.tuple hs
      obtain ⟨o, ho, hc, n, hd⟩ := p
      exact ⟨its, "tuple", o, n, .inr rfl, rv, ho, hc, hd⟩
  have e := each_of_vals rv
  refine sorted_seq (bs := ps) (enc := fun p => pyOf p.2) (R := fun u p => RelV p.1 u) hT ho hc hd e (each_reads e fun p hp u ru => Dp.reads I _ _ _ (hdp p hp) ru) hal hk hz (fun p hp => ?_) fun out h' d m eo kp hd' at' => ?_
  · have := hdep p hp
    omega
  · refine ⟨.ref d, _, I.laid (t' := s.toks) (o := .lst ((ps.mergeSort (PySem.W.dataLe false fun p => pyOf p.2)).map (·.1))) kp hd' ⟨?_, out, m, vals_of_each eo, at'⟩, rfl, q d (I.hok.fresh hd')⟩
    rw [List.length_map, List.length_mergeSort]
    exact hz
def okSort (ds : List D) : Bool := decide (ds.length ≤ 1000000) && ds.all (fun d => (toPy d).isSome && decide ((pyOf d).depth ≤ 60)) && ds.all (fun x => ds.all fun y => PySem.W.alike (pyOf x) (pyOf y)) &&
  (ds.all (fun d => match pyOf d with | .tuple (_ :: _) => true | _ => false) || ds.all (fun d => match pyOf d with | .none => false | .tuple _ => false | _ => true))
def sortL (ds : List D) : List D := ds.mergeSort (PySem.W.dataLe false pyOf)
def sortedD : List D → Option D
  | [.lst ds] => if okSort ds then some (.lst (sortL ds)) else none
  | [.tup ds] => if okSort ds then some (.lst (sortL ds)) else none
  | _ => none
theorem RepL.dpv {K : PySem.W.Frag} {G : Hp} : ∀ {vs : List V} {ds : List D}, RepL K G vs ds → (∀ d ∈ ds, (toPy d).isSome = true) → ∀ p ∈ vs.zip ds, Dp K G p.1 (pyOf p.2) ∧ Rep K G p.1 p.2
  | _, _, .nil, _, p, hp => by cases hp
  | _, _, .cons (v := v) (d := d) h1 h2, h, p, hp => by
    rw [List.zip_cons_cons] at hp
    rcases List.mem_cons.mp hp with e | hp
    · subst e
      refine ⟨?_, h1⟩
      have q := h d (by simp)
      unfold pyOf
      cases e : toPy d with
      | none => rw [e] at q; cases q
      | some x => exact Rep.dp h1 e
    · exact RepL.dpv h2 (fun d hd => h d (by simp [hd])) p hp
theorem repL_of {K : PySem.W.Frag} {G : Hp} : ∀ {ps : List (V × D)}, (∀ p ∈ ps, Rep K G p.1 p.2) → RepL K G (ps.map (·.1)) (ps.map (·.2))
  | [], _ => .nil
  | p :: ps, h => .cons (h p (by simp)) (repL_of fun q hq => h q (by simp [hq]))
theorem sort_run {K : PySem.W.Frag} {T : List (Addr × Str)} {F G H : Hp} {σ : L2.St} {δ : De} {a : Addr} {xs : List V} {ds : List D} {Q : VK} (s : S (K, T) F σ G H δ) (hs : SqL K H a xs ∨ SqT K H a xs) (r : RepL K G xs ds) (ok : okSort ds = true)
    (q : ∀ G' H' w, S (K, T) F σ G' H' δ → Same G G' → Rep K G' w (.lst (sortL ds)) → Q w H') : rSD K [.ref a] H Q := by
  unfold okSort at ok
  simp only [Bool.and_eq_true, decide_eq_true_eq, List.all_eq_true, Bool.or_eq_true] at ok
  obtain ⟨⟨⟨k1, k2⟩, k3⟩, k4⟩ := ok
  have hl := r.length
  have e1 : (xs.zip ds).map (·.1) = xs := List.map_fst_zip (by omega)
  have e2 : (xs.zip ds).map (·.2) = ds := List.map_snd_zip (by omega)
  have e3 : (xs.zip ds).map (fun p => pyOf p.2) = ds.map pyOf := by
    conv => rhs; rw [← e2]
    rw [List.map_map]; rfl
  have hd := RepL.dpv r fun d hd => (k2 d hd).1
  refine ⟨a, xs.zip ds, rfl, by rw [e1]; exact hs, ?_, fun p hp => dp_mono s.sub (hd p hp).1, ?_, ?_, fun p hp => ?_, fun l hl => ?_⟩
  · rw [List.length_zip, hl, Nat.min_self, sizeLine_eq]; omega
  · rw [e3]
    intro d hd d' hd'
    obtain ⟨x, hx, rfl⟩ := List.mem_map.mp hd
    obtain ⟨y, hy, rfl⟩ := List.mem_map.mp hd'
    exact k3 x hx y hy
  · rw [e3]
    rcases k4 with k4 | k4
    · refine .inl fun d hd => ?_
      obtain ⟨x, hx, rfl⟩ := List.mem_map.mp hd
      have := k4 x hx
      split at this
      · rename_i y r e; exact ⟨y, r, e⟩
      · cases this
    · refine .inr fun d hd => ?_
      obtain ⟨x, hx, rfl⟩ := List.mem_map.mp hd
      have := k4 x hx
      split at this
      · cases this
      · cases this
      · rename_i e1 e2; exact ⟨e1, fun xs e => e2 xs e⟩
  · exact (k2 p.2 (by rw [← e2]; exact List.mem_map.mpr ⟨p, hp, rfl⟩)).2
  · refine q _ _ _ (s.new hl) (same_upd (s.sub.free hl)) (.lst upd_same ?_)
    have m := repL_of (ps := (xs.zip ds).mergeSort (PySem.W.dataLe false fun p => pyOf p.2)) (K := K) (G := G) fun p hp => (hd p ((List.mergeSort_perm _ _).mem_iff.mp hp)).2
    have e4 : ((xs.zip ds).mergeSort (PySem.W.dataLe false fun p => pyOf p.2)).map (·.2) = sortL ds := by
      unfold sortL
      conv => rhs; rw [← e2]
      exact List.map_mergeSort (f := Prod.snd) (r := PySem.W.dataLe false fun p : V × D => pyOf p.2) (s := PySem.W.dataLe false pyOf) fun a _ b _ => rfl
    rw [e4] at m
    exact m.mono (same_upd (s.sub.free hl))
theorem cb_sorted {K : PySem.W.Frag} : Cb K (rSD K) sortedD := by
  refine ⟨fun T F σ G H δ vs ds d s rv e Q q => ?_⟩
  unfold sortedD at e
  split at e
  · split at e
    · rename_i ok
      cases e
      cases rv with
      | cons h t =>
        cases t
        cases h with
        | lst h1 h2 => exact sort_run s (.inl (.of (s.sub _ _ h1))) h2 ok q
    · cases e
  · split at e
    · rename_i ok
      cases e
      cases rv with
      | cons h t =>
        cases t
        cases h with
        | tup h1 h2 => exact sort_run s (.inr (seqT s.sub h1)) h2 ok q
    · cases e
  · cases e
theorem fe_sorted {c : SC} {p pos : Pos} {e : Expr} {f : M (List D)} (hm : c.mg "sorted" = none) (ha : FA c [e] f) (hg : Gb c "sorted" := by rfl) (he : ∀ env : Env, starEach [e] env = (false, eval e env) :: starEach [] env := by intro _; rfl) :
    FE c (.Call (.Name "sorted" p) [e] [] pos) (callB sortedD f) :=
  fe_callB hm (fun X h => by have := cr_sortedD (X := X) h.units; rwa [h.K] at this) cb_sorted ha (by decide +kernel) hg (he := he)
/-! ### gcd -/
def gcdD : List D → Option D
  | [.int a, .int b] => some (.int ((Nat.gcd a.natAbs b.natAbs : Nat) : Int))
  | _ => none
theorem cb_gcd {K : PySem.W.Frag} : Cb K rGcd gcdD := by
  refine ⟨fun T F σ G H δ vs ds d s rv e Q q => ?_⟩
  unfold gcdD at e
  split at e
  · cases e
    cases rv with
    | cons h t =>
      cases t with
      | cons h2 t2 =>
        cases t2
        cases h
        cases h2
        exact ⟨_, _, rfl, q _ _ _ s (Same.refl _) (.int _)⟩
  · cases e
theorem fe_gcd {c : SC} {p pos : Pos} {e : Expr} {es : List Expr} {f : M (List D)} {x : Str} (hm : c.mg x = some (.builtin "math.gcd")) (ha : FA c (e :: es) f) (hg : Gb c x := by rfl) (hdb : (x == ("__debug__" : Str)) = false := by decide)
    (he : ∀ env : Env, starEach (e :: es) env = (false, eval e env) :: starEach es env := by intro _; rfl) (hpl : ∀ env : Env, (backTo pos (starEach es env)).any (·.1) = false := by intro _; rfl) : FE c (.Call (.Name x p) (e :: es) [] pos) (callB gcdD f) := by
  obtain ⟨t, pa, sa⟩ := ha.ex
  exact ⟨_, fun X h => pe_callBfun cr_gcd (show X.env.scope.names.lookup x = _ by rw [h.sc]; exact hg) (by rw [h.mg]; exact hm) (pa X h) hdb (he _) (hpl _), Sp2.cb cb_gcd sa⟩
end FL

set_option Elab.async false
set_option linter.all false
set_option maxRecDepth 100000
set_option maxHeartbeats 2000000
/-! FL17: defaults, while, insert. -/
namespace FL
open PySem PySem.Spec PyProof.Rows L2
/-- a def called with its last parameters left out -/
structure FnDf (P : Program) (w : World) (K : PySem.W.Frag) (mg : Str → Option Value) (base : Heap) (cl : Nat → Addr) (k : Nat) (x : Str) (f : DF) (dvs : List D) : Prop where
  ex : ∃ (a : Addr) (fd : FuncData) (ps : List Str) (ds : List Value) (vs : List V), mg x = some (.ref a) ∧ PySem.W.keepIn K (.ref a) = true ∧ Binds K fd ps ds ∧ Vals vs ds ∧ (∀ G, RepL K G vs dvs) ∧ FnOk P w K mg base (L2.CX P w) k a fd ps (spD K cl f)
theorem fe_callDf {c : SC} {k : Nat} {x : Str} {f : DF} {dvs : List D} {p pos : Pos} {e : Expr} {es : List Expr} {fa : M (List D)} (F : FnDf c.P c.w c.K c.mg c.base c.cl k x f dvs) (ha : FA c (e :: es) fa) (hk : Nat.ble k c.k = true := by rfl)
    (hg : Gb c x := by rfl) (hdb : (x == ("__debug__" : Str)) = false := by decide) (he : ∀ env : Env, starEach (e :: es) env = (false, eval e env) :: starEach es env := by intro _; rfl) (hpl : ∀ env : Env, (backTo pos (starEach es env)).any (·.1) = false := by intro _; rfl) :
    FE c (.Call (.Name x p) (e :: es) [] pos) (callM (fun l => f (l ++ dvs)) fa) := by
  obtain ⟨t, pa, sa⟩ := ha.ex
  obtain ⟨a, fd, ps, ds', vs', h1, h2, h3, hv, hr, h4⟩ := F.ex
  refine ⟨tCallSD (spD c.K c.cl f) vs' (WE fun cls d _ H => c.E cls d H) t, fun X h => ?_, ?_⟩
  · have h4' : FnOk X.prog X.w X.K X.mg X.base (L2.CX X.prog X.w) k a fd ps (spD c.K c.cl f) := by rw [h.P, h.w, h.K, h.mg, h.base]; exact h4
    exact pe_callSD h4' (h.room.mono (Nat.le_of_ble_eq_true hk)) (show X.env.scope.names.lookup x = _ by rw [h.sc]; exact hg) (by rw [h.mg]; exact h1) (by rw [h.K]; exact h2) (by rw [h.K]; exact h3) hv (fun σ => passAt h.tk σ) (pa X h) hdb (he _) (hpl _)
  · intro F σ G H δ r s e Q p
    refine sa.step s e p fun G1 H1 δ1 vs ds s1 g1 rx e1 p1 => ?_
    unfold resM at e1
    dsimp only at e1
    cases h : f (ds ++ dvs) with
    | none => rw [h] at e1; cases e1
    | some rr =>
      rw [h] at e1
      have bs : ∀ b o, besides G1 H1 b = some o → G1 b = none ∧ H1 b = some o := fun b o e => by
        unfold besides at e
        split at e
        · cases e
        · rename_i q; exact ⟨q, e⟩
      refine ⟨besides G1 H1, G1, ds ++ dvs, rr, s1.sub, fun b o e => (bs b o e).2, fun b o e => (bs b o e).1, s1.ntg, rx.append (hr G1), h, ?_⟩
      cases rr with
      | ret d =>
        cases e1
        exact fun G' H' v g' h' f' d' n' rv => p1 G' H' v (s1.after g' h' f' d' n') g' rv
      | ex k =>
        cases e1
        exact fun G' H' g' h' f' => p1 G' H' g' h' fun b o e => f' _ _ (by unfold besides; rw [s1.dis _ _ e]; exact s1.frm _ _ e)
/-! ### while -/
def whileF (t : M Bool) (f : Fo) : Nat → Fo
  | 0 => fun _ => none
  | n + 1 => fun δ => match t δ with
    | none => none
    | some (.ex k) => some (.ex k)
    | some (.ok false δ1) => some (.nx δ1)
    | some (.ok true δ1) => match f δ1 with
      | none => none
      | some (.nx δ2) => whileF t f n δ2
      | some (.ct δ2) => whileF t f n δ2
      | some (.bk δ2) => some (.nx δ2)
      | some (.rt d) => some (.rt d)
      | some (.ex k) => some (.ex k)
theorem fs_while (n : Nat) {c : SC} {e : Expr} {body : List Stmt} {t : M Bool} {f : Fo} {pos : Pos} (hc : FT c e t) (hb : FS c body f) : FS1 c (.While e body [] pos) (whileF t f n) := by
  obtain ⟨tt, pt, st⟩ := hc.ex
  obtain ⟨tb, pb, sb⟩ := hb.ex
  refine ⟨tWhile tt tb, fun X h => ps_while h.po (pt X h) (pb X h), fun F σ G H δ o s e Dn p => ?_⟩
  refine ⟨fun m σ' H' => ∃ G' δ', Same G G' ∧ S c.κ F σ' G' H' δ' ∧ whileF t f m δ' = some o, ⟨n, G, δ, Same.refl _, s, e⟩, ?_⟩
  rintro m σ1 H1 ⟨G1, δ1, g1, s1, e1⟩
  cases m with
  | zero => cases e1
  | succ m =>
    rw [whileF] at e1
    dsimp only at e1
    cases ht : t δ1 with
    | none => rw [ht] at e1; cases e1
    | some r =>
      rw [ht] at e1
      refine st F σ1 G1 H1 δ1 r s1 ht _ ?_
      cases r with
      | ex k => cases e1; exact fun G' H' g' => p G' H' (g1.trans g')
      | ok b δ2 =>
        intro G2 H2 v s2 g2 rv
        have ev : v = b := rv
        subst ev
        cases v with
        | false =>
          rw [if_neg Bool.false_ne_true]
          cases e1
          exact p σ1 G2 H2 s2 (g1.trans g2)
        | true =>
          rw [if_pos rfl]
          dsimp only at e1
          refine ⟨fun σ' H' => ∃ G' δ', Same G G' ∧ S c.κ F σ' G' H' δ' ∧ whileF t f m δ' = some o, fun σ' H' ⟨G', δ', z1, z2, z3⟩ => ⟨m, Nat.lt_succ_self _, G', δ', z1, z2, z3⟩, ?_⟩
          cases hf : f δ2 with
          | none => rw [hf] at e1; cases e1
          | some o1 =>
            rw [hf] at e1
            refine sb F σ1 G2 H2 δ2 o1 s2 hf _ ?_
            have g12 := g1.trans g2
            cases o1 with
            | nx δ4 => exact fun σ' G' H' s' g' => ⟨G', δ4, g12.trans g', s', e1⟩
            | ct δ4 => exact fun σ' G' H' s' g' => ⟨G', δ4, g12.trans g', s', e1⟩
            | bk δ4 => cases e1; exact fun σ' G' H' s' g' => p σ' G' H' s' (g12.trans g')
            | rt d => cases e1; exact fun σ' G' H' δ' v s' g' rv => p σ' G' H' δ' v s' (g12.trans g') rv
            | ex k => cases e1; exact fun G' H' g' => p G' H' (g12.trans g')
/-! ### x.insert(k, e) -/
def insS (i : Nat) (g f : M D) : Fo := fun δ => match ownAt δ i with
  | none => none
  | some _ => thenS g (fun k => thenS f fun d δ => match k, ownAt δ i with
    | .int k, some xs => if 0 ≤ k ∧ k < 1000000 ∧ xs.length < 1000000 then some (.nx (δ.set i (.own (xs.take k.toNat ++ [d] ++ xs.drop k.toNat)))) else none
    | _, _ => none) δ
def rIns : V → List V → Hp → VK → Prop := fun z us H Q => ∃ (a : Addr) (ys : List V) (k : Int) (u : V), z = .ref a ∧ us = [.int k, u] ∧ H a = some (.lst ys) ∧ ys.length < sizeLine ∧
  0 ≤ k ∧ k < 2 ^ 63 ∧ Q .non (upd H a (.lst (ys.take k.toNat ++ [u] ++ ys.drop k.toNat)))
theorem fs_insert (i : Nat) {c : SC} {x : Str} {k e : Expr} {g f : M D} {p1 p2 p3 pos : Pos} (hk : FE c k g) (he : FE c e f) (hN : c.N[i]? = some x := by rfl) (hv : Vis c.sc x := by first | exact Or.inl rfl | exact Or.inr (Or.inl rfl) | exact Or.inr (Or.inr rfl))
    (hd : (x == ("__debug__" : Str)) = false := by decide) (hcd : (x == ("__classdict__" : Str)) = false := by decide)
    (h1 : ∀ env : Env, starEach [k, e] env = (false, eval k env) :: starEach [e] env := by intro _; rfl) (h2 : ∀ env : Env, starEach [e] env = (false, eval e env) :: starEach [] env := by intro _; rfl) (hpl : ∀ env : Env, (backTo p3 (starEach [e] env)).any (·.1) = false := by intro _; rfl)
    (hb : ∀ env : Env, attributeBase (.Name x p1) "insert" env (eval (.Name x p1) env) = eval (.Name x p1) env := by intro _; rfl)
    (hfew : ∀ env : Env, ((backTo p3 (starEach [k, e] env)).all (fun x => !x.1) && (backToKw p3 (keywordEach [] env)).all (fun x => x.1.isSome) && decide (([k, e] : List Expr).length + ([] : List Keyword).length + (if ([] : List Keyword).isEmpty then 0 else 1) < 30)) = true := by intro _; rfl)
    (hl : (p2.endLine == p3.line) = true := by rfl)
    (hs : ∀ env : Env, env.scope = c.sc → swapsWith (.Call (.Attribute (.Name x p1) "insert" p2) [k, e] [] p3) none pos.line env = pure false := by intro _ _; rfl) :
    FS1 c (.Expr (.Call (.Attribute (.Name x p1) "insert" p2) [k, e] [] p3) pos) (insS i g f) := by
  obtain ⟨tk, pk, sk⟩ := hk.ex
  obtain ⟨t, pa, sa⟩ := he.ex
  refine ⟨tDrop (tBM c.K "list" rIns (tVar i) (tCons tk (tCons t tNil))), fun X h => ?_, fun F σ G H δ o s e Dn p => ?_⟩
  · have q := pe_bm (X := X) (r := rIns) PySem.F.plainAttrs_list PySem.F.slot_list_insert PySem.F.type_list_insert mt_insert (pe_var (i := i) (x := x) (pos := p1) (by rw [h.N]; exact hN) (by rw [h.sc]; exact hv) hd hcd) (pa_cons (pk X h) (pa_cons (pa X h) pa_nil (h2 _)) (h1 _)) (hb _) (hfew _) hl (h1 _) (hpl _)
    rw [h.K] at q
    exact ps_expr q (hs _ h.sc)
  · unfold insS at e
    cases h0 : ownAt δ i with
    | none => rw [h0] at e; cases e
    | some xs0 =>
      rw [h0] at e
      dsimp only at e
      obtain ⟨q, vs, e1, e2, e3, e4, e5⟩ := s.own i xs0 (ownAt_some h0)
      refine ⟨_, e1, .inl ⟨rfl, _, .inl (.inl e2)⟩, ?_⟩
      refine sk.stepS s e p fun G1 H1 δ1 v1 d1 s1 g1 rx1 e1' p1 => ?_
      refine sa.stepS s1 e1' p1 fun G2 H2 δ2 v d s2 g2 rx e2' p2 => ?_
      split at e2'
      · rename_i kk xs hxs
        split at e2'
        · rename_i hl
          cases e2'
          cases rx1
          obtain ⟨q', ws, f1, f2, f3, f4, f5⟩ := s2.own i xs (ownAt_some hxs)
          rw [e1] at f1
          cases f1
          refine ⟨_, ws, kk, v, rfl, rfl, f2, by rw [f3.length]; exact lt6 hl.2.2, hl.1, by omega, ?_⟩
          exact p2 σ G2 _ (s2.setOwn (ownAt_some hxs) e1 (((f3.take _).append (.cons rx .nil)).append (f3.drop _))) (Same.refl _)
        · cases e2'
      · cases e2'
end FL

set_option Elab.async false
set_option linter.all false
set_option maxRecDepth 100000
set_option maxHeartbeats 2000000
/-! FL18: reading a list of one's own. -/
namespace FL
open PySem PySem.Spec PyProof.Rows L2
section
variable {c : SC}
def lenO (i : Nat) : M D := fun δ => match ownAt δ i with
  | some xs => some (.ok (.int xs.length) δ)
  | none => none
theorem fe_lenO (i : Nat) {x : Str} {p p1 pos : Pos} (hm : c.mg "len" = none) (hN : c.N[i]? = some x := by rfl) (hv : Vis c.sc x := by first | exact Or.inl rfl | exact Or.inr (Or.inl rfl) | exact Or.inr (Or.inr rfl)) (hg : Gb c "len" := by rfl)
    (hd : (x == ("__debug__" : Str)) = false := by decide) (hcd : (x == ("__classdict__" : Str)) = false := by decide)
    (he : ∀ env : Env, starEach [.Name x p1] env = (false, eval (.Name x p1) env) :: starEach [] env := by intro _; rfl) (hpl : ∀ env : Env, (backTo pos (starEach [] env)).any (·.1) = false := by intro _; rfl) :
    FE c (.Call (.Name "len" p) [.Name x p1] [] pos) (lenO i) := by
  refine ⟨tCB (fun xs H Q => (∃ p ys, xs = [V.ref p] ∧ (SqL c.K H p ys ∨ SqT c.K H p ys) ∧ Q (.int ys.length) H) ∨ (∃ z, xs = [V.str z] ∧ z.length ≤ sizeLine ∧ Q (.int z.length) H)) (tCons (tVar i) tNil), fun X h => ?_, fun F σ G H δ r s e Q p => ?_⟩
  · have q := (call_len_seq (X := X)).or call_len_str
    rw [h.K] at q
    exact pe_callB q (show X.env.scope.names.lookup ("len" : Str) = _ by rw [h.sc]; exact hg) (by rw [h.mg]; exact hm) PySem.boot_len
      (pa_cons (pe_var (i := i) (x := x) (pos := p1) (by rw [h.N]; exact hN) (by rw [h.sc]; exact hv) hd hcd) pa_nil (he _)) (by decide) (by decide) (he _) (hpl _)
  · unfold lenO at e
    cases h0 : ownAt δ i with
    | none => rw [h0] at e; cases e
    | some xs =>
      rw [h0] at e
      cases e
      obtain ⟨q, vs, e1, e2, e3, e4, e5⟩ := s.own i xs (ownAt_some h0)
      refine ⟨_, e1, .inl ⟨q, vs, rfl, .inl (.inl (.inl e2)), ?_⟩⟩
      rw [e3.length]
      exact p G H _ s (Same.refl _) (.int _)
def ixO (i : Nat) (g : M D) : M D := fun δ => match ownAt δ i with
  | none => none
  | some _ => FL.bindM g (fun k δ => match k, ownAt δ i with
    | .int k, some xs => match L2.atI xs k with
      | some d => some (.ok d δ)
      | none => none
    | _, _ => none) δ
theorem fe_ixO (i : Nat) {x : Str} {b : Expr} {fb : M D} {p1 pos : Pos} (hb : FE c b fb) (hN : c.N[i]? = some x := by rfl) (hv : Vis c.sc x := by first | exact Or.inl rfl | exact Or.inr (Or.inl rfl) | exact Or.inr (Or.inr rfl))
    (hd : (x == ("__debug__" : Str)) = false := by decide) (hcd : (x == ("__classdict__" : Str)) = false := by decide) (hs : PlainIx b := by intro _ _; rfl) : FE c (.Subscript (.Name x p1) b pos) (ixO i fb) := by
  obtain ⟨tb, pb, sb⟩ := hb.ex
  refine ⟨tOp (rIx c.K) (tVar i) tb, fun X h => ?_, fun F σ G H δ r s e Q p => ?_⟩
  · have := pe_ix (X := X) (pos := pos) ix_seq (pe_var (i := i) (x := x) (pos := p1) (by rw [h.N]; exact hN) (by rw [h.sc]; exact hv) hd hcd) (pb X h) hs
    rwa [h.K] at this
  · unfold ixO at e
    cases h0 : ownAt δ i with
    | none => rw [h0] at e; cases e
    | some xs =>
      rw [h0] at e
      dsimp only at e
      obtain ⟨q, vs, e1, e2, e3, e4, e5⟩ := s.own i xs (ownAt_some h0)
      refine ⟨_, e1, ?_⟩
      refine sb.step s e p fun G1 H1 δ1 v d s1 g1 rx e1' p1 => ?_
      split at e1'
      · rename_i k ys hy
        obtain ⟨q', ws, f1, f2, f3, f4, f5⟩ := s1.own i ys (ownAt_some hy)
        rw [e1] at f1
        cases f1
        split at e1'
        · rename_i d ha
          cases e1'
          cases rx
          obtain ⟨w, w1, w2⟩ := f3.atI ha
          exact .inl ⟨_, _, k, w, rfl, rfl, .inl (.inl f2), w1, p1 G1 H1 _ s1 (Same.refl _) w2⟩
        · cases e1'
      · cases e1'
end
end FL

set_option Elab.async false
set_option linter.all false
set_option maxRecDepth 100000
set_option maxHeartbeats 2000000
/-! FL19: defs with defaults; lists of kept lambdas. -/
namespace FL
open PySem PySem.Spec PyProof.Rows L2
theorem fnOkD {P : Program} {w : World} {K : PySem.W.Frag} {mg : Str → Option Value} {base : Heap} {cl : Nat → Addr} {k : Nat} {x : Str} {params : Arguments} {bd : List Stmt} {scope : Scope} {dvs : List V} {a : Addr} {fd : FuncData} {N ps : List Str} {f : Fo} (Fn : FunD K x x params bd scope dvs [] a fd) (Sc : FnScope N ps scope) (hN : ps.length ≤ N.length)
    (body : ∀ E : XK, FS ⟨P, w, K, mg, base, N, scope, k, cl, E, fun _ => true, [], .none, ""⟩ bd f) : FnOk P w K mg base (L2.CX P w) (k + 1) a fd ps (spD K cl (defF N ps.length f)) := by
  refine Fn.ok Sc (fun vs H Q E h => ?_) (fun cdv A outer s H vs Q E hr h => ?_)
  · obtain ⟨F, G, ds, r, _, _, _, _, h1, h2, _⟩ := h
    unfold defF at h2
    split at h2
    · rename_i q; rw [h1.length, q]
    · cases h2
  · obtain ⟨F, G, ds, r, sub, frm, dis, ng, h1, h2, post⟩ := h
    unfold defF at h2
    split at h2
    · rename_i q
      obtain ⟨t, pt, sp⟩ := (body E).ex
      refine ⟨t, pt _ ⟨rfl, rfl, rfl, rfl, rfl, rfl, rfl, rfl, hr, takes_of rfl rfl rfl rfl, fun _ _ => Or.inl rfl, passes_of rfl, Or.inl rfl⟩, ?_⟩
      have s0 : S (K, []) F (L2.start N vs) G H (startD N ds) := S.start sub frm dis ng h1 (by omega)
      cases ho : f (startD N ds) with
      | none => rw [ho] at h2; cases h2
      | some o =>
        rw [ho] at h2
        refine sp F _ G H _ o s0 ho _ ?_
        cases o with
        | rt d => cases h2; exact fun σ' G' H' δ' v s' g' rv => post G' H' v g' s'.sub s'.frm s'.dis s'.ntg rv
        | nx δ' => cases h2; exact fun σ' G' H' s' g' => post G' H' _ g' s'.sub s'.frm s'.dis s'.ntg .non
        | ex c => cases h2; exact fun G' H' g' h' f' => post G' H' g' h' f'
        | bk δ' => cases h2
        | ct δ' => cases h2
    · cases h2
/-- one default, an int: the def called with all, and with one less -/
theorem funD_mk {K : PySem.W.Frag} {x : Str} {st : Stmt} {a T : Addr} {oc : Value} {od an uo : Option Addr} {sl us : Array (Option Value)} {kV doc pm cdv ct uc : Value} {ui : Array Value} {un : Nat} {dvs : List V} (hd : dvs ≠ [])
    (l : K.lookup a = some ⟨oc, od, .func (PySem.W.fnOf x x (defArgs st) (defBody st) (defScope st) (.ref T) kV doc pm an cdv ct), sl⟩) (c : PySem.W.codeIn K cdv x = true) (k : PySem.W.keepIn K (.ref a) = true) (t : K.lookup T = some ⟨uc, uo, .seq ui un, us⟩) (v : Vals dvs ui.toList) :
    FunD K x x (defArgs st) (defBody st) (defScope st) dvs [] a (PySem.W.fnOf x x (defArgs st) (defBody st) (defScope st) (.ref T) kV doc pm an cdv ct) :=
  ⟨⟨oc, od, .ref T, kV, doc, pm, an, cdv, ct, sl, rfl, l, c, .inr ⟨hd, T, _, ui.toList, un, rfl, t, by simp, v⟩, .inl rfl⟩, k⟩
theorem vals_nil {ds : List Value} (h : Vals [] ds) : ds = [] := by cases h; rfl
/-! ### the law's kept lambdas -/
def asgE : Stmt → Expr | .Assign _ e _ => e | _ => .Constant .none 0 ⟨0, 0, 0, 0⟩
def eltE (e : Expr) (k : Nat) : Expr := match e with | .List es _ => es.getD k e | .Tuple es _ _ => es.getD k e | _ => e
def mkLam (q : Str) (ix : Nat) : Expr → Lam | .Lambda a b s _ => ⟨a, b, s, q, ix⟩ | e => ⟨defArgs (.Pass ⟨0, 0, 0, 0⟩), e, defScope (.Pass ⟨0, 0, 0, 0⟩), q, ix⟩
theorem lk_nil {c : SC} {k : Nat} : ∀ x ∈ ([] : List (Lam × M D)), LamOk c k x.1 x.2 := fun _ h => nomatch h
theorem lk_cons {c : SC} {k : Nat} {L : Lam} {f : M D} {lt : List (Lam × M D)} (h : LamOk c k L f) (t : ∀ x ∈ lt, LamOk c k x.1 x.2) : ∀ x ∈ (L, f) :: lt, LamOk c k x.1 x.2 := fun x hx => by
  rcases List.mem_cons.mp hx with e | hx
  · subst e; exact h
  · exact t x hx
end FL

set_option Elab.async false
set_option linter.all false
set_option maxRecDepth 100000
set_option maxHeartbeats 2000000
namespace V
open PySem PySem.Spec PyProof.Rows L2 FL
def topS (i : Nat) : Stmt := PySem.Challenge.pw_voicewright_k04_exact_parts.main.body.getD i (.Pass ⟨0, 0, 0, 0⟩)
structure TX (K : PySem.W.Frag) (mg : Str → Option Value) (cl : Nat → Addr) : Prop where
  b_abs : mg "abs" = none
  b_int : mg "int" = none
  b_len : mg "len" = none
  b_range : mg "range" = none
  b_sorted : mg "sorted" = none
  b_sum : mg "sum" = none
  b_tuple : mg "tuple" = none
  g_gcd : mg "gcd" = some (.builtin "math.gcd")
  x_BadTime : ExcC K mg "BadTime" (cl 2)
abbrev s_shared : Stmt := topS 13
abbrev s_part : Stmt := topS 14
abbrev s_plus : Stmt := topS 15
abbrev s_minus : Stmt := topS 16
abbrev s_times : Stmt := topS 17
abbrev s_by : Stmt := topS 18
abbrev s_is_less : Stmt := topS 19
abbrev s_least : Stmt := topS 20
abbrev s_greatest : Stmt := topS 21
abbrev s_whole_below : Stmt := topS 22
abbrev s_total : Stmt := topS 23
abbrev s_rest_by : Stmt := topS 24
abbrev s_in_order : Stmt := topS 25
abbrev s_check_length : Stmt := topS 26
abbrev s__law_dice : Stmt := topS 28
abbrev s__law_less : Stmt := topS 32
theorem sc_shared : FnScope ["one", "other"] ["one", "other"] (defScope s_shared) := ⟨rfl, rfl, rfl, by decide +kernel, rfl, by decide +kernel, by decide +kernel⟩
def b_shared : Fo := (thenS (callB gcdD (consM (varM 0) (consM (varM 1) (pureM [])))) fun d _ => some (.rt d))
def F_shared : DF := defF ["one", "other"] 2 b_shared
theorem fs_shared {P : Program} {w : World} {K : PySem.W.Frag} {mg : Str → Option Value} {base : Heap} {cl : Nat → Addr} (T : TX K mg cl)  (E : XK) : FS ⟨P, w, K, mg, base, ["one", "other"], defScope s_shared, 0, cl, E, fun _ => true, [], .none, ""⟩ (defBody s_shared) b_shared :=
  (fs_one (fs_ret (fe_gcd T.g_gcd (fa_cons (fe_var 0) (fa_cons (fe_var 1) fa_nil)))))
theorem fn_shared {P : Program} {w : World} {K : PySem.W.Frag} {mg : Str → Option Value} {base : Heap} {cl : Nat → Addr} {a : Addr} {fd : FuncData} (T : TX K mg cl)  (Fn : Fun K "shared" "shared" s_shared a fd) (hm : mg "shared" = some (.ref a)) (hb : Binds K fd ["one", "other"] []) : FnD P w K mg base cl 1 "shared" F_shared :=
  fnD Fn sc_shared hm hb (by decide) (fs_shared T )
theorem sc_part : FnScope ["top", "low", "by_both"] ["top", "low"] (defScope s_part) := ⟨rfl, rfl, rfl, by decide +kernel, rfl, by decide +kernel, by decide +kernel⟩
def b_part : Fo := (seqS (thenS (tst (bin2 eqD (varM 1) (pureM (.int 0)))) fun k => if k then (fun _ => some (.ex 2)) else nxS) (seqS (thenS (callM F_shared (consM (varM 0) (consM (varM 1) (pureM [])))) fun d δ => some (.nx (δ.set 2 (.val d)))) (seqS (thenS (tst (bin2 ltD (varM 1) (pureM (.int 0)))) fun k => if k then (thenS (un1 negD (varM 2)) fun d δ => some (.nx (δ.set 2 (.val d)))) else nxS) (thenS (tupM (consM (bin2 fdivD (varM 0) (varM 2)) (consM (bin2 fdivD (varM 1) (varM 2)) (pureM [])))) fun d _ => some (.rt d)))))
def F_part : DF := defF ["top", "low", "by_both"] 2 b_part
theorem fs_part {P : Program} {w : World} {K : PySem.W.Frag} {mg : Str → Option Value} {base : Heap} {cl : Nat → Addr} (T : TX K mg cl) (d_shared : FnD P w K mg base cl 1 "shared" F_shared) (E : XK) : FS ⟨P, w, K, mg, base, ["top", "low", "by_both"], defScope s_part, 1, cl, E, fun _ => true, [], .none, ""⟩ (defBody s_part) b_part :=
  (fs_cons (fs_if (ft_eq (fe_var 1) fe_int) (fs_one (fs_raise 2 T.x_BadTime)) fs_nil) (fs_cons (fs_set 2 sc_part.nd (fe_call d_shared (fa_cons (fe_var 0) (fa_cons (fe_var 1) fa_nil)))) (fs_cons (fs_if (ft_lt (fe_var 1) fe_int) (fs_one (fs_set 2 sc_part.nd (fe_neg (fe_var 2)))) fs_nil) (fs_one (fs_ret (fe_tup (fa_cons (fe_fdiv (fe_var 0) (fe_var 2)) (fa_cons (fe_fdiv (fe_var 1) (fe_var 2)) fa_nil))))))))
theorem fn_part {P : Program} {w : World} {K : PySem.W.Frag} {mg : Str → Option Value} {base : Heap} {cl : Nat → Addr} {a : Addr} {fd : FuncData} (T : TX K mg cl) (d_shared : FnD P w K mg base cl 1 "shared" F_shared) (Fn : FunD K "part" "part" (defArgs s_part) (defBody s_part) (defScope s_part) [V.int 1] [] a fd) (hm : mg "part" = some (.ref a)) (hb : Binds K fd ["top", "low"] []) : FnD P w K mg base cl 2 "part" F_part :=
  ⟨a, fd, ["top", "low"], hm, Fn.kp, hb, fnOkD Fn sc_part (by decide) (fs_part T d_shared)⟩
theorem fnf_part {P : Program} {w : World} {K : PySem.W.Frag} {mg : Str → Option Value} {base : Heap} {cl : Nat → Addr} {a : Addr} {fd : FuncData} (T : TX K mg cl) (d_shared : FnD P w K mg base cl 1 "shared" F_shared) (Fn : FunD K "part" "part" (defArgs s_part) (defBody s_part) (defScope s_part) [V.int 1] [] a fd) (hm : mg "part" = some (.ref a)) {ds : List Value} (hb : Binds K fd ["top", "low"] ds) (hv : Vals [V.int 1] ds) : FnDf P w K mg base cl 2 "part" F_part [.int 1] :=
  ⟨a, fd, ["top", "low"], ds, [V.int 1], hm, Fn.kp, hb, hv, fun _ => RepL.ints [1], fnOkD Fn sc_part (by decide) (fs_part T d_shared)⟩
theorem sc_plus : FnScope ["one", "other"] ["one", "other"] (defScope s_plus) := ⟨rfl, rfl, rfl, by decide +kernel, rfl, by decide +kernel, by decide +kernel⟩
def b_plus : Fo := (thenS (callM F_part (consM (bin2 addD (bin2 mulD (bin2 ixD (varM 0) (pureM (.int 0))) (bin2 ixD (varM 1) (pureM (.int 1)))) (bin2 mulD (bin2 ixD (varM 1) (pureM (.int 0))) (bin2 ixD (varM 0) (pureM (.int 1))))) (consM (bin2 mulD (bin2 ixD (varM 0) (pureM (.int 1))) (bin2 ixD (varM 1) (pureM (.int 1)))) (pureM [])))) fun d _ => some (.rt d))
def F_plus : DF := defF ["one", "other"] 2 b_plus
theorem fs_plus {P : Program} {w : World} {K : PySem.W.Frag} {mg : Str → Option Value} {base : Heap} {cl : Nat → Addr} (T : TX K mg cl) (d_part : FnD P w K mg base cl 2 "part" F_part) (E : XK) : FS ⟨P, w, K, mg, base, ["one", "other"], defScope s_plus, 2, cl, E, fun _ => true, [], .none, ""⟩ (defBody s_plus) b_plus :=
  (fs_one (fs_ret (fe_call d_part (fa_cons (fe_add (fe_mul (fe_ix (fe_var 0) fe_int) (fe_ix (fe_var 1) fe_int)) (fe_mul (fe_ix (fe_var 1) fe_int) (fe_ix (fe_var 0) fe_int))) (fa_cons (fe_mul (fe_ix (fe_var 0) fe_int) (fe_ix (fe_var 1) fe_int)) fa_nil)))))
theorem fn_plus {P : Program} {w : World} {K : PySem.W.Frag} {mg : Str → Option Value} {base : Heap} {cl : Nat → Addr} {a : Addr} {fd : FuncData} (T : TX K mg cl) (d_part : FnD P w K mg base cl 2 "part" F_part) (Fn : Fun K "plus" "plus" s_plus a fd) (hm : mg "plus" = some (.ref a)) (hb : Binds K fd ["one", "other"] []) : FnD P w K mg base cl 3 "plus" F_plus :=
  fnD Fn sc_plus hm hb (by decide) (fs_plus T d_part)
theorem sc_minus : FnScope ["one", "other"] ["one", "other"] (defScope s_minus) := ⟨rfl, rfl, rfl, by decide +kernel, rfl, by decide +kernel, by decide +kernel⟩
def b_minus : Fo := (thenS (callM F_plus (consM (varM 0) (consM (tupM (consM (un1 negD (bin2 ixD (varM 1) (pureM (.int 0)))) (consM (bin2 ixD (varM 1) (pureM (.int 1))) (pureM [])))) (pureM [])))) fun d _ => some (.rt d))
def F_minus : DF := defF ["one", "other"] 2 b_minus
theorem fs_minus {P : Program} {w : World} {K : PySem.W.Frag} {mg : Str → Option Value} {base : Heap} {cl : Nat → Addr} (T : TX K mg cl) (d_plus : FnD P w K mg base cl 3 "plus" F_plus) (E : XK) : FS ⟨P, w, K, mg, base, ["one", "other"], defScope s_minus, 3, cl, E, fun _ => true, [], .none, ""⟩ (defBody s_minus) b_minus :=
  (fs_one (fs_ret (fe_call d_plus (fa_cons (fe_var 0) (fa_cons (fe_tup (fa_cons (fe_neg (fe_ix (fe_var 1) fe_int)) (fa_cons (fe_ix (fe_var 1) fe_int) fa_nil))) fa_nil)))))
theorem fn_minus {P : Program} {w : World} {K : PySem.W.Frag} {mg : Str → Option Value} {base : Heap} {cl : Nat → Addr} {a : Addr} {fd : FuncData} (T : TX K mg cl) (d_plus : FnD P w K mg base cl 3 "plus" F_plus) (Fn : Fun K "minus" "minus" s_minus a fd) (hm : mg "minus" = some (.ref a)) (hb : Binds K fd ["one", "other"] []) : FnD P w K mg base cl 4 "minus" F_minus :=
  fnD Fn sc_minus hm hb (by decide) (fs_minus T d_plus)
theorem sc_times : FnScope ["one", "other"] ["one", "other"] (defScope s_times) := ⟨rfl, rfl, rfl, by decide +kernel, rfl, by decide +kernel, by decide +kernel⟩
def b_times : Fo := (thenS (callM F_part (consM (bin2 mulD (bin2 ixD (varM 0) (pureM (.int 0))) (bin2 ixD (varM 1) (pureM (.int 0)))) (consM (bin2 mulD (bin2 ixD (varM 0) (pureM (.int 1))) (bin2 ixD (varM 1) (pureM (.int 1)))) (pureM [])))) fun d _ => some (.rt d))
def F_times : DF := defF ["one", "other"] 2 b_times
theorem fs_times {P : Program} {w : World} {K : PySem.W.Frag} {mg : Str → Option Value} {base : Heap} {cl : Nat → Addr} (T : TX K mg cl) (d_part : FnD P w K mg base cl 2 "part" F_part) (E : XK) : FS ⟨P, w, K, mg, base, ["one", "other"], defScope s_times, 2, cl, E, fun _ => true, [], .none, ""⟩ (defBody s_times) b_times :=
  (fs_one (fs_ret (fe_call d_part (fa_cons (fe_mul (fe_ix (fe_var 0) fe_int) (fe_ix (fe_var 1) fe_int)) (fa_cons (fe_mul (fe_ix (fe_var 0) fe_int) (fe_ix (fe_var 1) fe_int)) fa_nil)))))
theorem fn_times {P : Program} {w : World} {K : PySem.W.Frag} {mg : Str → Option Value} {base : Heap} {cl : Nat → Addr} {a : Addr} {fd : FuncData} (T : TX K mg cl) (d_part : FnD P w K mg base cl 2 "part" F_part) (Fn : Fun K "times" "times" s_times a fd) (hm : mg "times" = some (.ref a)) (hb : Binds K fd ["one", "other"] []) : FnD P w K mg base cl 3 "times" F_times :=
  fnD Fn sc_times hm hb (by decide) (fs_times T d_part)
theorem sc_by : FnScope ["one", "other"] ["one", "other"] (defScope s_by) := ⟨rfl, rfl, rfl, by decide +kernel, rfl, by decide +kernel, by decide +kernel⟩
def b_by : Fo := (thenS (callM F_part (consM (bin2 mulD (bin2 ixD (varM 0) (pureM (.int 0))) (bin2 ixD (varM 1) (pureM (.int 1)))) (consM (bin2 mulD (bin2 ixD (varM 0) (pureM (.int 1))) (bin2 ixD (varM 1) (pureM (.int 0)))) (pureM [])))) fun d _ => some (.rt d))
def F_by : DF := defF ["one", "other"] 2 b_by
theorem fs_by {P : Program} {w : World} {K : PySem.W.Frag} {mg : Str → Option Value} {base : Heap} {cl : Nat → Addr} (T : TX K mg cl) (d_part : FnD P w K mg base cl 2 "part" F_part) (E : XK) : FS ⟨P, w, K, mg, base, ["one", "other"], defScope s_by, 2, cl, E, fun _ => true, [], .none, ""⟩ (defBody s_by) b_by :=
  (fs_one (fs_ret (fe_call d_part (fa_cons (fe_mul (fe_ix (fe_var 0) fe_int) (fe_ix (fe_var 1) fe_int)) (fa_cons (fe_mul (fe_ix (fe_var 0) fe_int) (fe_ix (fe_var 1) fe_int)) fa_nil)))))
theorem fn_by {P : Program} {w : World} {K : PySem.W.Frag} {mg : Str → Option Value} {base : Heap} {cl : Nat → Addr} {a : Addr} {fd : FuncData} (T : TX K mg cl) (d_part : FnD P w K mg base cl 2 "part" F_part) (Fn : Fun K "by" "by" s_by a fd) (hm : mg "by" = some (.ref a)) (hb : Binds K fd ["one", "other"] []) : FnD P w K mg base cl 3 "by" F_by :=
  fnD Fn sc_by hm hb (by decide) (fs_by T d_part)
theorem sc_is_less : FnScope ["one", "other"] ["one", "other"] (defScope s_is_less) := ⟨rfl, rfl, rfl, by decide +kernel, rfl, by decide +kernel, by decide +kernel⟩
def b_is_less : Fo := (thenS (bin2 ltD (bin2 mulD (bin2 ixD (varM 0) (pureM (.int 0))) (bin2 ixD (varM 1) (pureM (.int 1)))) (bin2 mulD (bin2 ixD (varM 1) (pureM (.int 0))) (bin2 ixD (varM 0) (pureM (.int 1))))) fun d _ => some (.rt d))
def F_is_less : DF := defF ["one", "other"] 2 b_is_less
theorem fs_is_less {P : Program} {w : World} {K : PySem.W.Frag} {mg : Str → Option Value} {base : Heap} {cl : Nat → Addr} (T : TX K mg cl)  (E : XK) : FS ⟨P, w, K, mg, base, ["one", "other"], defScope s_is_less, 0, cl, E, fun _ => true, [], .none, ""⟩ (defBody s_is_less) b_is_less :=
  (fs_one (fs_ret (fe_lt (fe_mul (fe_ix (fe_var 0) fe_int) (fe_ix (fe_var 1) fe_int)) (fe_mul (fe_ix (fe_var 1) fe_int) (fe_ix (fe_var 0) fe_int)))))
theorem fn_is_less {P : Program} {w : World} {K : PySem.W.Frag} {mg : Str → Option Value} {base : Heap} {cl : Nat → Addr} {a : Addr} {fd : FuncData} (T : TX K mg cl)  (Fn : Fun K "is_less" "is_less" s_is_less a fd) (hm : mg "is_less" = some (.ref a)) (hb : Binds K fd ["one", "other"] []) : FnD P w K mg base cl 1 "is_less" F_is_less :=
  fnD Fn sc_is_less hm hb (by decide) (fs_is_less T )
theorem sc_least : FnScope ["one", "other"] ["one", "other"] (defScope s_least) := ⟨rfl, rfl, rfl, by decide +kernel, rfl, by decide +kernel, by decide +kernel⟩
def b_least : Fo := (thenS (iteM (tst (callM F_is_less (consM (varM 1) (consM (varM 0) (pureM []))))) (callB tupleD (consM (varM 1) (pureM []))) (callB tupleD (consM (varM 0) (pureM [])))) fun d _ => some (.rt d))
def F_least : DF := defF ["one", "other"] 2 b_least
theorem fs_least {P : Program} {w : World} {K : PySem.W.Frag} {mg : Str → Option Value} {base : Heap} {cl : Nat → Addr} (T : TX K mg cl) (d_is_less : FnD P w K mg base cl 1 "is_less" F_is_less) (E : XK) : FS ⟨P, w, K, mg, base, ["one", "other"], defScope s_least, 1, cl, E, fun _ => true, [], .none, ""⟩ (defBody s_least) b_least :=
  (fs_one (fs_ret (fe_ite (ft_val (fe_call d_is_less (fa_cons (fe_var 1) (fa_cons (fe_var 0) fa_nil)))) (fe_tuple T.b_tuple (fa_cons (fe_var 1) fa_nil)) (fe_tuple T.b_tuple (fa_cons (fe_var 0) fa_nil)))))
theorem fn_least {P : Program} {w : World} {K : PySem.W.Frag} {mg : Str → Option Value} {base : Heap} {cl : Nat → Addr} {a : Addr} {fd : FuncData} (T : TX K mg cl) (d_is_less : FnD P w K mg base cl 1 "is_less" F_is_less) (Fn : Fun K "least" "least" s_least a fd) (hm : mg "least" = some (.ref a)) (hb : Binds K fd ["one", "other"] []) : FnD P w K mg base cl 2 "least" F_least :=
  fnD Fn sc_least hm hb (by decide) (fs_least T d_is_less)
theorem sc_greatest : FnScope ["one", "other"] ["one", "other"] (defScope s_greatest) := ⟨rfl, rfl, rfl, by decide +kernel, rfl, by decide +kernel, by decide +kernel⟩
def b_greatest : Fo := (thenS (iteM (tst (callM F_is_less (consM (varM 0) (consM (varM 1) (pureM []))))) (callB tupleD (consM (varM 1) (pureM []))) (callB tupleD (consM (varM 0) (pureM [])))) fun d _ => some (.rt d))
def F_greatest : DF := defF ["one", "other"] 2 b_greatest
theorem fs_greatest {P : Program} {w : World} {K : PySem.W.Frag} {mg : Str → Option Value} {base : Heap} {cl : Nat → Addr} (T : TX K mg cl) (d_is_less : FnD P w K mg base cl 1 "is_less" F_is_less) (E : XK) : FS ⟨P, w, K, mg, base, ["one", "other"], defScope s_greatest, 1, cl, E, fun _ => true, [], .none, ""⟩ (defBody s_greatest) b_greatest :=
  (fs_one (fs_ret (fe_ite (ft_val (fe_call d_is_less (fa_cons (fe_var 0) (fa_cons (fe_var 1) fa_nil)))) (fe_tuple T.b_tuple (fa_cons (fe_var 1) fa_nil)) (fe_tuple T.b_tuple (fa_cons (fe_var 0) fa_nil)))))
theorem fn_greatest {P : Program} {w : World} {K : PySem.W.Frag} {mg : Str → Option Value} {base : Heap} {cl : Nat → Addr} {a : Addr} {fd : FuncData} (T : TX K mg cl) (d_is_less : FnD P w K mg base cl 1 "is_less" F_is_less) (Fn : Fun K "greatest" "greatest" s_greatest a fd) (hm : mg "greatest" = some (.ref a)) (hb : Binds K fd ["one", "other"] []) : FnD P w K mg base cl 2 "greatest" F_greatest :=
  fnD Fn sc_greatest hm hb (by decide) (fs_greatest T d_is_less)
theorem sc_whole_below : FnScope ["one"] ["one"] (defScope s_whole_below) := ⟨rfl, rfl, rfl, by decide +kernel, rfl, by decide +kernel, by decide +kernel⟩
def b_whole_below : Fo := (thenS (bin2 fdivD (bin2 ixD (varM 0) (pureM (.int 0))) (bin2 ixD (varM 0) (pureM (.int 1)))) fun d _ => some (.rt d))
def F_whole_below : DF := defF ["one"] 1 b_whole_below
theorem fs_whole_below {P : Program} {w : World} {K : PySem.W.Frag} {mg : Str → Option Value} {base : Heap} {cl : Nat → Addr} (T : TX K mg cl)  (E : XK) : FS ⟨P, w, K, mg, base, ["one"], defScope s_whole_below, 0, cl, E, fun _ => true, [], .none, ""⟩ (defBody s_whole_below) b_whole_below :=
  (fs_one (fs_ret (fe_fdiv (fe_ix (fe_var 0) fe_int) (fe_ix (fe_var 0) fe_int))))
theorem fn_whole_below {P : Program} {w : World} {K : PySem.W.Frag} {mg : Str → Option Value} {base : Heap} {cl : Nat → Addr} {a : Addr} {fd : FuncData} (T : TX K mg cl)  (Fn : Fun K "whole_below" "whole_below" s_whole_below a fd) (hm : mg "whole_below" = some (.ref a)) (hb : Binds K fd ["one"] []) : FnD P w K mg base cl 1 "whole_below" F_whole_below :=
  fnD Fn sc_whole_below hm hb (by decide) (fs_whole_below T )
theorem sc_total : FnScope ["parts", "found", "one"] ["parts"] (defScope s_total) := ⟨rfl, rfl, rfl, by decide +kernel, rfl, by decide +kernel, by decide +kernel⟩
def b_total : Fo := (seqS (thenS (tupM (consM (pureM (.int 0)) (consM (pureM (.int 1)) (pureM [])))) fun d δ => some (.nx (δ.set 1 (.val d)))) (seqS (thenS (seqM (varM 0)) fun ds => forD (bName 2) ((thenS (callM F_plus (consM (varM 1) (consM (varM 2) (pureM [])))) fun d δ => some (.nx (δ.set 1 (.val d))))) ds) (thenS (varM 1) fun d _ => some (.rt d))))
def F_total : DF := defF ["parts", "found", "one"] 1 b_total
theorem fs_total {P : Program} {w : World} {K : PySem.W.Frag} {mg : Str → Option Value} {base : Heap} {cl : Nat → Addr} (T : TX K mg cl) (d_plus : FnD P w K mg base cl 3 "plus" F_plus) (E : XK) : FS ⟨P, w, K, mg, base, ["parts", "found", "one"], defScope s_total, 3, cl, E, fun _ => true, [], .none, ""⟩ (defBody s_total) b_total :=
  (fs_cons (fs_set 1 sc_total.nd (fe_tup (fa_cons fe_int (fa_cons fe_int fa_nil)))) (fs_cons (fs_for (fi_seq (fe_var 0)) (fg_name 2 sc_total.nd) (fs_one (fs_set 1 sc_total.nd (fe_call d_plus (fa_cons (fe_var 1) (fa_cons (fe_var 2) fa_nil)))))) (fs_one (fs_ret (fe_var 1)))))
theorem fn_total {P : Program} {w : World} {K : PySem.W.Frag} {mg : Str → Option Value} {base : Heap} {cl : Nat → Addr} {a : Addr} {fd : FuncData} (T : TX K mg cl) (d_plus : FnD P w K mg base cl 3 "plus" F_plus) (Fn : Fun K "total" "total" s_total a fd) (hm : mg "total" = some (.ref a)) (hb : Binds K fd ["parts"] []) : FnD P w K mg base cl 4 "total" F_total :=
  fnD Fn sc_total hm hb (by decide) (fs_total T d_plus)
theorem sc_rest_by : FnScope ["one", "other"] ["one", "other"] (defScope s_rest_by) := ⟨rfl, rfl, rfl, by decide +kernel, rfl, by decide +kernel, by decide +kernel⟩
def b_rest_by : Fo := (thenS (callM F_minus (consM (varM 0) (consM (callM F_times (consM (varM 1) (consM (callM (fun l => F_part (l ++ [.int 1])) (consM (callM F_whole_below (consM (callM F_by (consM (varM 0) (consM (varM 1) (pureM [])))) (pureM []))) (pureM []))) (pureM [])))) (pureM [])))) fun d _ => some (.rt d))
def F_rest_by : DF := defF ["one", "other"] 2 b_rest_by
theorem fs_rest_by {P : Program} {w : World} {K : PySem.W.Frag} {mg : Str → Option Value} {base : Heap} {cl : Nat → Addr} (T : TX K mg cl) (d_by : FnD P w K mg base cl 3 "by" F_by) (d_minus : FnD P w K mg base cl 4 "minus" F_minus) (d_part : FnD P w K mg base cl 2 "part" F_part) (d_times : FnD P w K mg base cl 3 "times" F_times) (d_whole_below : FnD P w K mg base cl 1 "whole_below" F_whole_below) (e_part : FnDf P w K mg base cl 2 "part" F_part [.int 1]) (E : XK) : FS ⟨P, w, K, mg, base, ["one", "other"], defScope s_rest_by, 4, cl, E, fun _ => true, [], .none, ""⟩ (defBody s_rest_by) b_rest_by :=
  (fs_one (fs_ret (fe_call d_minus (fa_cons (fe_var 0) (fa_cons (fe_call d_times (fa_cons (fe_var 1) (fa_cons (fe_callDf e_part (fa_cons (fe_call d_whole_below (fa_cons (fe_call d_by (fa_cons (fe_var 0) (fa_cons (fe_var 1) fa_nil))) fa_nil)) fa_nil)) fa_nil))) fa_nil)))))
theorem fn_rest_by {P : Program} {w : World} {K : PySem.W.Frag} {mg : Str → Option Value} {base : Heap} {cl : Nat → Addr} {a : Addr} {fd : FuncData} (T : TX K mg cl) (d_by : FnD P w K mg base cl 3 "by" F_by) (d_minus : FnD P w K mg base cl 4 "minus" F_minus) (d_part : FnD P w K mg base cl 2 "part" F_part) (d_times : FnD P w K mg base cl 3 "times" F_times) (d_whole_below : FnD P w K mg base cl 1 "whole_below" F_whole_below) (e_part : FnDf P w K mg base cl 2 "part" F_part [.int 1]) (Fn : Fun K "rest_by" "rest_by" s_rest_by a fd) (hm : mg "rest_by" = some (.ref a)) (hb : Binds K fd ["one", "other"] []) : FnD P w K mg base cl 5 "rest_by" F_rest_by :=
  fnD Fn sc_rest_by hm hb (by decide) (fs_rest_by T d_by d_minus d_part d_times d_whole_below e_part)
theorem sc_in_order : FnScope ["parts", "found", "one", "place"] ["parts"] (defScope s_in_order) := ⟨rfl, rfl, rfl, by decide +kernel, rfl, by decide +kernel, by decide +kernel⟩
def b_in_order : Fo := (seqS (thenS (pureM []) fun ds δ => if ds.length ≤ 1000000 then some (.nx (δ.set 1 (.own ds))) else none) (seqS (thenS (seqM (varM 0)) fun ds => forD (bName 2) ((seqS (thenS (lenO 1) fun d δ => some (.nx (δ.set 3 (.val d)))) (seqS (whileF (andT (tst (bin2 gtD (varM 3) (pureM (.int 0)))) (tst (callM F_is_less (consM (varM 2) (consM (ixO 1 (bin2 subD (varM 3) (pureM (.int 1)))) (pureM [])))))) ((thenS (bindM (varM 3) fun a => bindM (pureM (.int 1)) fun b => liftO (int2 (fun i j => .int (i - j)) a b)) fun d δ => some (.nx (δ.set 3 (.val d))))) 1000) (insS 1 (varM 3) (callB tupleD (consM (varM 2) (pureM []))))))) ds) (freezeS 1 (thenS (callB tupleD (consM (varM 1) (pureM []))) fun d _ => some (.rt d)))))
def F_in_order : DF := defF ["parts", "found", "one", "place"] 1 b_in_order
theorem fs_in_order {P : Program} {w : World} {K : PySem.W.Frag} {mg : Str → Option Value} {base : Heap} {cl : Nat → Addr} (T : TX K mg cl) (d_is_less : FnD P w K mg base cl 1 "is_less" F_is_less) (E : XK) : FS ⟨P, w, K, mg, base, ["parts", "found", "one", "place"], defScope s_in_order, 1, cl, E, fun _ => true, [], .none, ""⟩ (defBody s_in_order) b_in_order :=
  (fs_cons (fs_setOwn 1 sc_in_order.nd fa_nil) (fs_cons (fs_for (fi_seq (fe_var 0)) (fg_name 2 sc_in_order.nd) (fs_cons (fs_set 3 sc_in_order.nd (fe_lenO 1 T.b_len)) (fs_cons (fs_while 1000 (ft_w (fw_and (ft_gt (fe_var 3) fe_int) (fw_and1 (ft_val (fe_call d_is_less (fa_cons (fe_var 2) (fa_cons (fe_ixO 1 (fe_sub (fe_var 3) fe_int)) fa_nil))))))) (fs_one (fs_aug 3 sc_in_order.nd fe_int (fun _ _ => ip_sub)))) (fs_one (fs_insert 1 (fe_var 3) (fe_tuple T.b_tuple (fa_cons (fe_var 2) fa_nil))))))) (fs_freeze 1 (fs_one (fs_ret (fe_tuple T.b_tuple (fa_cons (fe_var 1) fa_nil)))))))
theorem fn_in_order {P : Program} {w : World} {K : PySem.W.Frag} {mg : Str → Option Value} {base : Heap} {cl : Nat → Addr} {a : Addr} {fd : FuncData} (T : TX K mg cl) (d_is_less : FnD P w K mg base cl 1 "is_less" F_is_less) (Fn : Fun K "in_order" "in_order" s_in_order a fd) (hm : mg "in_order" = some (.ref a)) (hb : Binds K fd ["parts"] []) : FnD P w K mg base cl 2 "in_order" F_in_order :=
  fnD Fn sc_in_order hm hb (by decide) (fs_in_order T d_is_less)
theorem sc_check_length : FnScope ["one", "top", "low"] ["one"] (defScope s_check_length) := ⟨rfl, rfl, rfl, by decide +kernel, rfl, by decide +kernel, by decide +kernel⟩
def b_check_length : Fo := (seqS (thenS (callM F_part (consM (bin2 ixD (varM 0) (pureM (.int 0))) (consM (bin2 ixD (varM 0) (pureM (.int 1))) (pureM [])))) fun d δ => (bTup (bCons (bName 1) (bCons (bName 2) (bNil))) d δ).map .nx) (seqS (thenS (tst (bin2 leD (varM 1) (pureM (.int 0)))) fun k => if k then (fun _ => some (.ex 2)) else nxS) (thenS (tupM (consM (varM 1) (consM (varM 2) (pureM [])))) fun d _ => some (.rt d))))
def F_check_length : DF := defF ["one", "top", "low"] 1 b_check_length
theorem fs_check_length {P : Program} {w : World} {K : PySem.W.Frag} {mg : Str → Option Value} {base : Heap} {cl : Nat → Addr} (T : TX K mg cl) (d_part : FnD P w K mg base cl 2 "part" F_part) (E : XK) : FS ⟨P, w, K, mg, base, ["one", "top", "low"], defScope s_check_length, 2, cl, E, fun _ => true, [], .none, ""⟩ (defBody s_check_length) b_check_length :=
  (fs_cons (fs_asg (fe_call d_part (fa_cons (fe_ix (fe_var 0) fe_int) (fa_cons (fe_ix (fe_var 0) fe_int) fa_nil))) (fg_tup (fgs_cons (fg_name 1 sc_check_length.nd) (fgs_cons (fg_name 2 sc_check_length.nd) fgs_nil)))) (fs_cons (fs_if (ft_le (fe_var 1) fe_int) (fs_one (fs_raise 2 T.x_BadTime)) fs_nil) (fs_one (fs_ret (fe_tup (fa_cons (fe_var 1) (fa_cons (fe_var 2) fa_nil)))))))
theorem fn_check_length {P : Program} {w : World} {K : PySem.W.Frag} {mg : Str → Option Value} {base : Heap} {cl : Nat → Addr} {a : Addr} {fd : FuncData} (T : TX K mg cl) (d_part : FnD P w K mg base cl 2 "part" F_part) (Fn : Fun K "check_length" "check_length" s_check_length a fd) (hm : mg "check_length" = some (.ref a)) (hb : Binds K fd ["one"] []) : FnD P w K mg base cl 3 "check_length" F_check_length :=
  fnD Fn sc_check_length hm hb (by decide) (fs_check_length T d_part)
theorem sc__law_dice : FnScope ["cell"] ["cell"] (defScope s__law_dice) := ⟨rfl, rfl, rfl, by decide +kernel, rfl, by decide +kernel, by decide +kernel⟩
def b__law_dice : Fo := (seqS (thenS (tst (chainM ltD ltD (bin2 subD (pureM (.int 0)) (pureM (.int 10))) (varM 0) (pureM (.int 10)))) fun k => if k then (thenS (lstM (consM (callB absD (consM (varM 0) (pureM []))) (consM (pureM (.int 0)) (consM (pureM (.int 2)) (pureM []))))) fun d _ => some (.rt d)) else nxS) (thenS (lstM (consM (varM 0) (consM (bin2 addD (pureM (.int 1)) (bin2 modD (callB intD (consM (varM 0) (pureM []))) (pureM (.int 1009)))) (consM (callB intD (consM (bin2 geD (varM 0) (bin2 powD (pureM (.int 10)) (pureM (.int 18)))) (pureM []))) (pureM []))))) fun d _ => some (.rt d)))
def F__law_dice : DF := defF ["cell"] 1 b__law_dice
theorem fs__law_dice {P : Program} {w : World} {K : PySem.W.Frag} {mg : Str → Option Value} {base : Heap} {cl : Nat → Addr} (T : TX K mg cl)  (E : XK) : FS ⟨P, w, K, mg, base, ["cell"], defScope s__law_dice, 0, cl, E, fun _ => true, [], .none, ""⟩ (defBody s__law_dice) b__law_dice :=
  (fs_cons (fs_if (ft_ltlt (fe_sub fe_int fe_int) (fe_var 0) fe_int) (fs_one (fs_ret (fe_lst (fa_cons (fe_abs T.b_abs (fa_cons (fe_var 0) fa_nil)) (fa_cons fe_int (fa_cons fe_int fa_nil)))))) fs_nil) (fs_one (fs_ret (fe_lst (fa_cons (fe_var 0) (fa_cons (fe_add fe_int (fe_mod (fe_int1 T.b_int (fa_cons (fe_var 0) fa_nil)) fe_int)) (fa_cons (fe_int1 T.b_int (fa_cons (fe_ge (fe_var 0) (fe_pow fe_int fe_int)) fa_nil)) fa_nil)))))))
theorem fn__law_dice {P : Program} {w : World} {K : PySem.W.Frag} {mg : Str → Option Value} {base : Heap} {cl : Nat → Addr} {a : Addr} {fd : FuncData} (T : TX K mg cl)  (Fn : Fun K "_law_dice" "_law_dice" s__law_dice a fd) (hm : mg "_law_dice" = some (.ref a)) (hb : Binds K fd ["cell"] []) : FnD P w K mg base cl 1 "_law_dice" F__law_dice :=
  fnD Fn sc__law_dice hm hb (by decide) (fs__law_dice T )
theorem sc__law_less : FnScope ["one", "other"] ["one", "other"] (defScope s__law_less) := ⟨rfl, rfl, rfl, by decide +kernel, rfl, by decide +kernel, by decide +kernel⟩
def b__law_less : Fo := (thenS (bin2 ltD (bin2 mulD (bin2 ixD (varM 0) (pureM (.int 0))) (bin2 ixD (varM 1) (pureM (.int 1)))) (bin2 mulD (bin2 ixD (varM 1) (pureM (.int 0))) (bin2 ixD (varM 0) (pureM (.int 1))))) fun d _ => some (.rt d))
def F__law_less : DF := defF ["one", "other"] 2 b__law_less
theorem fs__law_less {P : Program} {w : World} {K : PySem.W.Frag} {mg : Str → Option Value} {base : Heap} {cl : Nat → Addr} (T : TX K mg cl)  (E : XK) : FS ⟨P, w, K, mg, base, ["one", "other"], defScope s__law_less, 0, cl, E, fun _ => true, [], .none, ""⟩ (defBody s__law_less) b__law_less :=
  (fs_one (fs_ret (fe_lt (fe_mul (fe_ix (fe_var 0) fe_int) (fe_ix (fe_var 1) fe_int)) (fe_mul (fe_ix (fe_var 1) fe_int) (fe_ix (fe_var 0) fe_int)))))
theorem fn__law_less {P : Program} {w : World} {K : PySem.W.Frag} {mg : Str → Option Value} {base : Heap} {cl : Nat → Addr} {a : Addr} {fd : FuncData} (T : TX K mg cl)  (Fn : Fun K "_law_less" "_law_less" s__law_less a fd) (hm : mg "_law_less" = some (.ref a)) (hb : Binds K fd ["one", "other"] []) : FnD P w K mg base cl 1 "_law_less" F__law_less :=
  fnD Fn sc__law_less hm hb (by decide) (fs__law_less T )
abbrev s_law : Stmt := topS 33
abbrev s__law_roll : Stmt := topS 29
abbrev s__law_rounds : Stmt := topS 30
abbrev s__law_told : Stmt := topS 31
theorem sc__law_roll : FnScope ["dice", "many", "found"] ["dice", "many"] (defScope s__law_roll) := ⟨rfl, rfl, rfl, by decide +kernel, rfl, by decide +kernel, by decide +kernel⟩
theorem at3 (a b d : V) (k : Nat) (v : V) (h : [a, b, d][k]? = some v) : atI [a, b, d] (k : Int) = some v := atI_nat h
theorem ok_roll {P : Program} {w : World} {K : PySem.W.Frag} {mg : Str → Option Value} {base : Heap} {a : Addr} {fd : FuncData} (F : Fun K "_law_roll" "_law_roll" s__law_roll a fd) (hi : mg "int" = none) : FnOk P w K mg base (L2.CX P w) 1 a fd ["dice", "many"] spRoll := by
  refine F.okX sc__law_roll (fun vs H Q E h => ?_) (fun cdv A outer s H vs Q E hr h => ?_)
  · obtain ⟨p, x, y, z, m, rfl, _⟩ := h
    rfl
  · refine ⟨_, pss_cons (ps_if (PW.pt (pw_or (pt_cmpR op_eq (pe_ix ix_list (pv 0) pe_int (fun _ _ => rfl)) pe_int (nomark _)) (pw_or1 (PW.pt (pw_and (pt_cmpR op_eq (pe_ix ix_list (pv 0) pe_int (fun _ _ => rfl)) pe_int (nomark _)) (pw_and1 (pt_cmpR op_gt (pe_ix ix_list (pv 0) pe_int (fun _ _ => rfl)) pe_int (nomark _))))))))
        (pss_cons (ps_set (i := 2) sc__law_roll.nd rfl (Or.inl rfl) (pe_op op_mod (pe_callTy call_int1 (by rfl) hi PyProof.Rows.boot_int (pa_cons (pe_ix ix_list (pv 0) pe_int (fun _ _ => rfl)) pa_nil)) (pv 1)))
        (pss_cons (ps_asg (pe_op op_fdiv (pe_ix ix_list (pv 0) pe_int (fun _ _ => rfl)) (pv 1)) (pg_sub (pv 0) pe_int set_list))
        (pss_one (ps_ret (pv 2))))) pss_nil)
      (pss_cons (ps_asg pe_int (pg_sub (pv 0) pe_int set_list))
      (pss_cons (ps_asg (pe_op op_mod (pe_callTy call_int1 (by rfl) hi PyProof.Rows.boot_int (pa_cons (pe_op op_add (pe_op op_add (pe_op op_mul (pe_ix ix_list (pv 0) pe_int (fun _ _ => rfl)) pe_int) (pe_op op_mul (pe_ix ix_list (pv 0) pe_int (fun _ _ => rfl)) pe_int)) pe_int) pa_nil)) pe_int) (pg_sub (pv 0) pe_int set_list))
      (pss_cons (ps_asg (pe_op op_add (pe_ix ix_list (pv 0) pe_int (fun _ _ => rfl)) pe_int) (pg_sub (pv 0) pe_int set_list))
      (pss_one (ps_ret (pe_op op_mod (pe_callTy call_int1 (by rfl) hi PyProof.Rows.boot_int (pa_cons (pe_op op_add (pe_op op_fdiv (pe_ix ix_list (pv 0) pe_int (fun _ _ => rfl)) pe_int) (pe_ix ix_list (pv 0) pe_int (fun _ _ => rfl))) pa_nil)) (pv 1))))))), ?_⟩
    obtain ⟨p, x, y, z, m, rfl, hp, m0, m1, q⟩ := h
    have sq : ∀ {H' : Hp} {a b d : Int}, H' p = some (ints3 a b d) → SqL K H' p [.int a, .int b, .int d] := fun h => .inl (.inl h)
    refine ⟨_, rfl, p, _, _, _, rfl, rfl, sq hp, atI_nat (j := 2) rfl, rfl, _, rfl, ?_⟩
    refine ite2 (fun e => ?_) (fun e => ?_)
    · have hz2 : z = 2 := V.int.inj (of_decide_eq_true e)
      have hc : z = 2 ∨ (z = 1 ∧ 0 < x) := .inl hz2
      refine iteT ?_
      refine ⟨_, rfl, p, _, _, _, rfl, rfl, sq hp, atI_nat (j := 0) rfl, .inl ⟨_, rfl, _, rfl, _, _, rfl, rfl, m0, ?_⟩⟩
      refine ⟨_, rfl, p, _, _, _, rfl, rfl, sq hp, atI_nat (j := 0) rfl, _, rfl, _, _, rfl, rfl, ⟨m0, m1⟩, _, rfl, p, _, _, 0, rfl, rfl, hp, rfl, _, rfl, ?_⟩
      simp only [rollF, if_pos hc] at q
      exact q
    · have hz2 : z ≠ 2 := fun h => e (by rw [h]; exact decide_eq_true rfl)
      refine ⟨_, rfl, p, _, _, _, rfl, rfl, sq hp, atI_nat (j := 2) rfl, rfl, _, rfl, ?_⟩
      refine ite2 (fun e1 => ?_) (fun e1 => ?_)
      · have hz1 : z = 1 := V.int.inj (of_decide_eq_true e1)
        refine ⟨_, rfl, p, _, _, _, rfl, rfl, sq hp, atI_nat (j := 0) rfl, _, _, rfl, rfl, _, rfl, ?_⟩
        by_cases hx : 0 < x
        · rw [decide_eq_true hx]
          have hc : z = 2 ∨ (z = 1 ∧ 0 < x) := .inr ⟨hz1, hx⟩
          refine iteT ?_
          refine ⟨_, rfl, p, _, _, _, rfl, rfl, sq hp, atI_nat (j := 0) rfl, .inl ⟨_, rfl, _, rfl, _, _, rfl, rfl, m0, ?_⟩⟩
          refine ⟨_, rfl, p, _, _, _, rfl, rfl, sq hp, atI_nat (j := 0) rfl, _, rfl, _, _, rfl, rfl, ⟨m0, m1⟩, _, rfl, p, _, _, 0, rfl, rfl, hp, rfl, _, rfl, ?_⟩
          simp only [rollF, if_pos hc] at q
          exact q
        · rw [decide_eq_false hx]
          have hc : ¬ (z = 2 ∨ (z = 1 ∧ 0 < x)) := by omega
          refine iteF ?_
          refine ⟨_, rfl, p, _, 2, 2, rfl, rfl, hp, rfl, ?_⟩
          have h1 : (upd H p (.lst [.int x, .int y, .int 0])) p = some (ints3 x y 0) := upd_same
          refine ⟨_, rfl, p, _, 0, _, rfl, rfl, sq h1, atI_nat (j := 0) rfl, _, _, rfl, rfl, .inr ⟨by decide, by decide⟩, _, rfl, p, _, 1, _, rfl, rfl, sq h1, atI_nat (j := 1) rfl, _, _, rfl, rfl, .inr ⟨by decide, by decide⟩, _, _, rfl, rfl, _, _, rfl, rfl, .inl ⟨_, rfl, _, _, rfl, rfl, (by show (0 : Int) < 2147483647; decide), ?_⟩⟩
          refine ⟨_, rfl, p, _, 0, 0, rfl, rfl, h1, rfl, ?_⟩
          have h2 : (upd (upd H p (.lst [.int x, .int y, .int 0])) p (.lst [.int ((x * 48271 + y * 69621 + 11) % 2147483647), .int y, .int 0])) p = some (ints3 ((x * 48271 + y * 69621 + 11) % 2147483647) y 0) := upd_same
          refine ⟨_, rfl, p, _, 1, _, rfl, rfl, sq h2, atI_nat (j := 1) rfl, _, _, rfl, rfl, _, rfl, p, _, 1, 1, rfl, rfl, h2, rfl, ?_⟩
          have h3 : (upd (upd (upd H p (.lst [.int x, .int y, .int 0])) p (.lst [.int ((x * 48271 + y * 69621 + 11) % 2147483647), .int y, .int 0])) p (.lst [.int ((x * 48271 + y * 69621 + 11) % 2147483647), .int (y + 1), .int 0])) p = some (ints3 ((x * 48271 + y * 69621 + 11) % 2147483647) (y + 1) 0) := upd_same
          refine ⟨_, rfl, p, _, 0, _, rfl, rfl, sq h3, atI_nat (j := 0) rfl, _, _, rfl, rfl, ⟨by decide, by decide⟩, _, rfl, p, _, 0, _, rfl, rfl, sq h3, atI_nat (j := 0) rfl, _, _, rfl, rfl, .inl ⟨_, rfl, _, rfl, _, _, rfl, rfl, m0, ?_⟩⟩
          simp only [rollF, if_neg hc] at q
          have e3 : upd (upd (upd H p (.lst [.int x, .int y, .int 0])) p (.lst [.int ((x * 48271 + y * 69621 + 11) % 2147483647), .int y, .int 0])) p (.lst [.int ((x * 48271 + y * 69621 + 11) % 2147483647), .int (y + 1), .int 0]) = upd H p (ints3 ((x * 48271 + y * 69621 + 11) % 2147483647) (y + 1) 0) := by rw [upd_upd, upd_upd]; rfl
          rw [← e3] at q
          exact q
      · have hz1 : z ≠ 1 := fun h => e1 (by rw [h]; exact decide_eq_true rfl)
        have hc : ¬ (z = 2 ∨ (z = 1 ∧ 0 < x)) := by omega
        refine iteF ?_
        refine ⟨_, rfl, p, _, 2, 2, rfl, rfl, hp, rfl, ?_⟩
        have h1 : (upd H p (.lst [.int x, .int y, .int 0])) p = some (ints3 x y 0) := upd_same
        refine ⟨_, rfl, p, _, 0, _, rfl, rfl, sq h1, atI_nat (j := 0) rfl, _, _, rfl, rfl, .inr ⟨by decide, by decide⟩, _, rfl, p, _, 1, _, rfl, rfl, sq h1, atI_nat (j := 1) rfl, _, _, rfl, rfl, .inr ⟨by decide, by decide⟩, _, _, rfl, rfl, _, _, rfl, rfl, .inl ⟨_, rfl, _, _, rfl, rfl, (by show (0 : Int) < 2147483647; decide), ?_⟩⟩
        refine ⟨_, rfl, p, _, 0, 0, rfl, rfl, h1, rfl, ?_⟩
        have h2 : (upd (upd H p (.lst [.int x, .int y, .int 0])) p (.lst [.int ((x * 48271 + y * 69621 + 11) % 2147483647), .int y, .int 0])) p = some (ints3 ((x * 48271 + y * 69621 + 11) % 2147483647) y 0) := upd_same
        refine ⟨_, rfl, p, _, 1, _, rfl, rfl, sq h2, atI_nat (j := 1) rfl, _, _, rfl, rfl, _, rfl, p, _, 1, 1, rfl, rfl, h2, rfl, ?_⟩
        have h3 : (upd (upd (upd H p (.lst [.int x, .int y, .int 0])) p (.lst [.int ((x * 48271 + y * 69621 + 11) % 2147483647), .int y, .int 0])) p (.lst [.int ((x * 48271 + y * 69621 + 11) % 2147483647), .int (y + 1), .int 0])) p = some (ints3 ((x * 48271 + y * 69621 + 11) % 2147483647) (y + 1) 0) := upd_same
        refine ⟨_, rfl, p, _, 0, _, rfl, rfl, sq h3, atI_nat (j := 0) rfl, _, _, rfl, rfl, ⟨by decide, by decide⟩, _, rfl, p, _, 0, _, rfl, rfl, sq h3, atI_nat (j := 0) rfl, _, _, rfl, rfl, .inl ⟨_, rfl, _, rfl, _, _, rfl, rfl, m0, ?_⟩⟩
        simp only [rollF, if_neg hc] at q
        have e3 : upd (upd (upd H p (.lst [.int x, .int y, .int 0])) p (.lst [.int ((x * 48271 + y * 69621 + 11) % 2147483647), .int y, .int 0])) p (.lst [.int ((x * 48271 + y * 69621 + 11) % 2147483647), .int (y + 1), .int 0]) = upd H p (ints3 ((x * 48271 + y * 69621 + 11) % 2147483647) (y + 1) 0) := by rw [upd_upd, upd_upd]; rfl
        rw [← e3] at q
        exact q

theorem sc__law_rounds : FnScope ["script", "most", "cells", "cell"] ["script", "most"] (defScope s__law_rounds) := ⟨rfl, rfl, rfl, by decide +kernel, rfl, by decide +kernel, by decide +kernel⟩
def b_rounds : Fo := (seqS (thenS (tst (bin2 eqD (varM 2) (lstM (pureM [])))) fun k => if k then (thenS (lstM (consM (pureM (.int 0)) (pureM []))) fun d δ => some (.nx (δ.set 2 (.val d)))) else nxS) (thenS (lcM [3] (bName 3) (pureM true) (callM F__law_dice (consM (varM 3) (pureM []))) (seqM (varM 2))) fun d _ => some (.rt d)))
theorem fs_rounds {P : Program} {w : World} {K : PySem.W.Frag} {mg : Str → Option Value} {base : Heap} {cl : Nat → Addr} (T : TX K mg cl) (d__law_dice : FnD P w K mg base cl 1 "_law_dice" F__law_dice) (E : XK) : FS ⟨P, w, K, mg, base, ["script", "most", "cells", "cell"], defScope s__law_rounds, 1, cl, E, fun _ => true, [], .none, ""⟩ (defBody s__law_rounds).tail b_rounds :=
  (fs_cons (fs_if (ft_eq (fe_var 2) (fe_lst fa_nil)) (fs_one (fs_set 2 sc__law_rounds.nd (fe_lst (fa_cons fe_int fa_nil)))) fs_nil) (fs_one (fs_ret (fe_lc [("cell", 3)] sc__law_rounds.nd (fi_seq (fe_var 2)) (by kernel_rfl) (fg_name 3 sc__law_rounds.nd) fts_nil (fe_call d__law_dice (fa_cons (fe_var 3) fa_nil)) (by decide)))))
abbrev NL : List (Nat × Str) := [(1, "note"), (2, "time"), (3, "line"), (4, "none"), (5, "paper"), (6, "size"), (7, "text"), (8, "store"), (9, "no such")]
theorem sc_law : FnScope ["script", "dice", "wrong", "parts", "small", "k", "one", "row", "low", "a", "b", "rest", "top", "count", "pair"] ["script"] (defScope s_law) := ⟨rfl, rfl, rfl, by decide +kernel, rfl, by decide +kernel, by decide +kernel⟩
abbrev lam_0 : Lam := mkLam ((("law" : Str) ++ (".<locals>." : Str)) ++ "<lambda>") 0 (eltE (eltE (asgE ((defBody s_law).getD 1 (.Pass ⟨0, 0, 0, 0⟩))) 3) 0)
abbrev lam_1 : Lam := mkLam ((("law" : Str) ++ (".<locals>." : Str)) ++ "<lambda>") 1 (eltE (eltE (asgE ((defBody s_law).getD 1 (.Pass ⟨0, 0, 0, 0⟩))) 2) 0)
abbrev lam_2 : Lam := mkLam ((("law" : Str) ++ (".<locals>." : Str)) ++ "<lambda>") 2 (eltE (eltE (asgE ((defBody s_law).getD 1 (.Pass ⟨0, 0, 0, 0⟩))) 1) 0)
abbrev lam_3 : Lam := mkLam ((("law" : Str) ++ (".<locals>." : Str)) ++ "<lambda>") 3 (eltE (eltE (asgE ((defBody s_law).getD 1 (.Pass ⟨0, 0, 0, 0⟩))) 0) 0)
def LT : List (Lam × M D) := [(lam_0, callM F_check_length (consM (tupM (consM (bin2 subD (pureM (.int 0)) (pureM (.int 1))) (consM (pureM (.int 2)) (pureM [])))) (pureM []))), (lam_1, callM F_check_length (consM (tupM (consM (pureM (.int 0)) (consM (pureM (.int 1)) (pureM [])))) (pureM []))), (lam_2, callM F_by (consM (tupM (consM (pureM (.int 1)) (consM (pureM (.int 1)) (pureM [])))) (consM (tupM (consM (pureM (.int 0)) (consM (pureM (.int 1)) (pureM [])))) (pureM [])))), (lam_3, callM F_part (consM (pureM (.int 1)) (consM (pureM (.int 0)) (pureM []))))]
def b_body : Fo := (seqS (thenS (lcM [5] (bName 5) (pureM true) (tupM (consM (bin2 subD (rollM 1 (pureM (.int 19))) (pureM (.int 9))) (consM (bin2 addD (pureM (.int 1)) (rollM 1 (pureM (.int 6)))) (pureM [])))) (itM rng1 (consM (bin2 addD (pureM (.int 2)) (rollM 1 (pureM (.int 5)))) (pureM [])))) fun d δ => some (.nx (δ.set 3 (.val d)))) (seqS (thenS (lcM [12, 8] (bTup (bCons (bName 12) (bCons (bName 8) (bNil)))) (pureM true) (callM F_part (consM (varM 12) (consM (varM 8) (pureM [])))) (seqM (varM 3))) fun d δ => some (.nx (δ.set 4 (.val d)))) (seqS (thenS (itM rng1 (consM (callB lenD (consM (varM 3) (pureM []))) (pureM []))) fun ds => forD (bName 5) ((seqS (thenS (tst (bin2 neD (bin2 mulD (bin2 ixD (bin2 ixD (varM 4) (varM 5)) (pureM (.int 0))) (bin2 ixD (bin2 ixD (varM 3) (varM 5)) (pureM (.int 1)))) (bin2 mulD (bin2 ixD (bin2 ixD (varM 3) (varM 5)) (pureM (.int 0))) (bin2 ixD (bin2 ixD (varM 4) (varM 5)) (pureM (.int 1)))))) fun k => if k then (thenS (pureM (.bl false)) fun d _ => some (.rt d)) else nxS) (seqS (thenS (tst (bin2 ltD (bin2 ixD (bin2 ixD (varM 4) (varM 5)) (pureM (.int 1))) (pureM (.int 1)))) fun k => if k then (thenS (pureM (.bl false)) fun d _ => some (.rt d)) else nxS) (seqS (thenS (andT (tst (bin2 neD (callM F_shared (consM (callB absD (consM (bin2 ixD (bin2 ixD (varM 4) (varM 5)) (pureM (.int 0))) (pureM []))) (consM (bin2 ixD (bin2 ixD (varM 4) (varM 5)) (pureM (.int 1))) (pureM [])))) (pureM (.int 1)))) (tst (bin2 neD (bin2 ixD (bin2 ixD (varM 4) (varM 5)) (pureM (.int 0))) (pureM (.int 0))))) fun k => if k then (thenS (pureM (.bl false)) fun d _ => some (.rt d)) else nxS) (thenS (tst (bin2 neD (callM F_part (consM (bin2 subD (pureM (.int 0)) (bin2 ixD (bin2 ixD (varM 3) (varM 5)) (pureM (.int 0)))) (consM (bin2 subD (pureM (.int 0)) (bin2 ixD (bin2 ixD (varM 3) (varM 5)) (pureM (.int 1)))) (pureM [])))) (bin2 ixD (varM 4) (varM 5)))) fun k => if k then (thenS (pureM (.bl false)) fun d _ => some (.rt d)) else nxS))))) ds) (seqS (thenS (consM (bin2 ixD (varM 4) (pureM (.int 0))) (consM (bin2 ixD (varM 4) (pureM (.int 1))) (pureM []))) fun ds δ => match ds with | [d, e] => some (.nx ((δ.set 9 (.val d)).set 10 (.val e))) | _ => none) (seqS (thenS (orT (tst (bin2 neD (bin2 mulD (bin2 mulD (bin2 ixD (callM F_plus (consM (varM 9) (consM (varM 10) (pureM [])))) (pureM (.int 0))) (bin2 ixD (varM 9) (pureM (.int 1)))) (bin2 ixD (varM 10) (pureM (.int 1)))) (bin2 mulD (bin2 addD (bin2 mulD (bin2 ixD (varM 9) (pureM (.int 0))) (bin2 ixD (varM 10) (pureM (.int 1)))) (bin2 mulD (bin2 ixD (varM 10) (pureM (.int 0))) (bin2 ixD (varM 9) (pureM (.int 1))))) (bin2 ixD (callM F_plus (consM (varM 9) (consM (varM 10) (pureM [])))) (pureM (.int 1)))))) (orT (tst (bin2 neD (callM F_minus (consM (callM F_plus (consM (varM 9) (consM (varM 10) (pureM [])))) (consM (varM 10) (pureM [])))) (varM 9))) (tst (bin2 neD (bin2 mulD (bin2 mulD (bin2 ixD (callM F_times (consM (varM 9) (consM (varM 10) (pureM [])))) (pureM (.int 0))) (bin2 ixD (varM 9) (pureM (.int 1)))) (bin2 ixD (varM 10) (pureM (.int 1)))) (bin2 mulD (bin2 mulD (bin2 ixD (varM 9) (pureM (.int 0))) (bin2 ixD (varM 10) (pureM (.int 0)))) (bin2 ixD (callM F_times (consM (varM 9) (consM (varM 10) (pureM [])))) (pureM (.int 1)))))))) fun k => if k then (thenS (pureM (.bl false)) fun d _ => some (.rt d)) else nxS) (seqS (thenS (seqM (bin2 addD (lstM (consM (callM F_plus (consM (varM 9) (consM (varM 10) (pureM [])))) (consM (callM F_minus (consM (varM 9) (consM (varM 10) (pureM [])))) (consM (callM F_times (consM (varM 9) (consM (varM 10) (pureM [])))) (pureM []))))) (iteM (tst (bin2 neD (bin2 ixD (varM 10) (pureM (.int 0))) (pureM (.int 0)))) (lstM (consM (callM F_by (consM (varM 9) (consM (varM 10) (pureM [])))) (pureM []))) (lstM (pureM []))))) fun ds => forD (bName 6) ((thenS (orT (tst (bin2 ltD (bin2 ixD (varM 6) (pureM (.int 1))) (pureM (.int 1)))) (orT (andT (tst (bin2 neD (bin2 ixD (varM 6) (pureM (.int 0))) (pureM (.int 0)))) (tst (bin2 neD (callM F_shared (consM (callB absD (consM (bin2 ixD (varM 6) (pureM (.int 0))) (pureM []))) (consM (bin2 ixD (varM 6) (pureM (.int 1))) (pureM [])))) (pureM (.int 1))))) (andT (tst (bin2 eqD (bin2 ixD (varM 6) (pureM (.int 0))) (pureM (.int 0)))) (tst (bin2 neD (bin2 ixD (varM 6) (pureM (.int 1))) (pureM (.int 1))))))) fun k => if k then (thenS (pureM (.bl false)) fun d _ => some (.rt d)) else nxS)) ds) (seqS (thenS (orT (tst (bin2 neD (callM F_is_less (consM (varM 9) (consM (varM 10) (pureM [])))) (callM F__law_less (consM (varM 9) (consM (varM 10) (pureM [])))))) (orT (tst (bin2 neD (callM F_least (consM (varM 9) (consM (varM 10) (pureM [])))) (iteM (tst (callM F__law_less (consM (varM 10) (consM (varM 9) (pureM []))))) (varM 10) (varM 9)))) (tst (bin2 neD (callM F_greatest (consM (varM 9) (consM (varM 10) (pureM [])))) (iteM (tst (callM F__law_less (consM (varM 9) (consM (varM 10) (pureM []))))) (varM 10) (varM 9)))))) fun k => if k then (thenS (pureM (.bl false)) fun d _ => some (.rt d)) else nxS) (seqS (thenS (orT (andT (tst (bin2 neD (bin2 ixD (varM 10) (pureM (.int 0))) (pureM (.int 0)))) (tst (bin2 neD (callM F_times (consM (callM F_by (consM (varM 9) (consM (varM 10) (pureM [])))) (consM (varM 10) (pureM [])))) (varM 9)))) (orT (tst (bin2 gtD (bin2 mulD (callM F_whole_below (consM (varM 9) (pureM []))) (bin2 ixD (varM 9) (pureM (.int 1)))) (bin2 ixD (varM 9) (pureM (.int 0))))) (tst (bin2 leD (bin2 mulD (bin2 addD (callM F_whole_below (consM (varM 9) (pureM []))) (pureM (.int 1))) (bin2 ixD (varM 9) (pureM (.int 1)))) (bin2 ixD (varM 9) (pureM (.int 0))))))) fun k => if k then (thenS (pureM (.bl false)) fun d _ => some (.rt d)) else nxS) (seqS (thenS (tst (bin2 gtD (bin2 ixD (varM 10) (pureM (.int 0))) (pureM (.int 0)))) fun k => if k then (seqS (thenS (callM F_rest_by (consM (varM 9) (consM (varM 10) (pureM [])))) fun d δ => some (.nx (δ.set 11 (.val d)))) (thenS (orT (tst (bin2 ltD (bin2 ixD (varM 11) (pureM (.int 0))) (pureM (.int 0)))) (orT (bindM (tst (callM F_is_less (consM (varM 11) (consM (varM 10) (pureM []))))) fun k => pureM (!k)) (tst (bin2 neD (bin2 ixD (callM F_by (consM (callM F_minus (consM (varM 9) (consM (varM 11) (pureM [])))) (consM (varM 10) (pureM [])))) (pureM (.int 1))) (pureM (.int 1)))))) fun k => if k then (thenS (pureM (.bl false)) fun d _ => some (.rt d)) else nxS)) else nxS) (seqS (thenS (callM F_in_order (consM (varM 4) (pureM []))) fun d δ => some (.nx (δ.set 7 (.val d)))) (seqS (thenS (orT (tst (bin2 neD (callB sortedD (consM (varM 7) (pureM []))) (callB sortedD (consM (varM 4) (pureM []))))) (tst (bin2 neD (lcM [5] (bName 5) (tst (callM F__law_less (consM (bin2 ixD (varM 7) (varM 5)) (consM (bin2 ixD (varM 7) (bin2 subD (varM 5) (pureM (.int 1)))) (pureM []))))) (varM 5) (itM rng2 (consM (pureM (.int 1)) (consM (callB lenD (consM (varM 7) (pureM []))) (pureM []))))) (lstM (pureM []))))) fun k => if k then (thenS (pureM (.bl false)) fun d _ => some (.rt d)) else nxS) (seqS (thenS (pureM (.int 1)) fun d δ => some (.nx (δ.set 8 (.val d)))) (seqS (thenS (seqM (varM 4)) fun ds => forD (bTup (bCons (bName 12) (bCons (bName 13) (bNil)))) ((thenS (bin2 mulD (varM 8) (varM 13)) fun d δ => some (.nx (δ.set 8 (.val d))))) ds) (thenS (tst (bin2 neD (bin2 mulD (bin2 ixD (callM F_total (consM (varM 4) (pureM []))) (pureM (.int 0))) (varM 8)) (bin2 mulD (callB sumD (consM (lcM [12, 13] (bTup (bCons (bName 12) (bCons (bName 13) (bNil)))) (pureM true) (bin2 mulD (varM 12) (bin2 fdivD (varM 8) (varM 13))) (seqM (varM 4))) (pureM []))) (bin2 ixD (callM F_total (consM (varM 4) (pureM []))) (pureM (.int 1)))))) fun k => if k then (thenS (pureM (.bl false)) fun d _ => some (.rt d)) else nxS))))))))))))))
theorem fs_body {P : Program} {w : World} {K : PySem.W.Frag} {mg : Str → Option Value} {base : Heap} {cl : Nat → Addr} {C Pt : Addr} (T : TX K mg cl) (d__law_less : FnD P w K mg base cl 1 "_law_less" F__law_less) (d_by : FnD P w K mg base cl 3 "by" F_by) (d_check_length : FnD P w K mg base cl 3 "check_length" F_check_length) (d_greatest : FnD P w K mg base cl 2 "greatest" F_greatest) (d_in_order : FnD P w K mg base cl 2 "in_order" F_in_order) (d_is_less : FnD P w K mg base cl 1 "is_less" F_is_less) (d_least : FnD P w K mg base cl 2 "least" F_least) (d_minus : FnD P w K mg base cl 4 "minus" F_minus) (d_part : FnD P w K mg base cl 2 "part" F_part) (d_plus : FnD P w K mg base cl 3 "plus" F_plus) (d_rest_by : FnD P w K mg base cl 5 "rest_by" F_rest_by) (d_shared : FnD P w K mg base cl 1 "shared" F_shared) (d_times : FnD P w K mg base cl 3 "times" F_times) (d_total : FnD P w K mg base cl 4 "total" F_total) (d_whole_below : FnD P w K mg base cl 1 "whole_below" F_whole_below) (RD : RollD P w K mg base) (TD : ToldD P w K mg base cl NL) (tb : LamX.TabB base mg C Pt) (E : XK) :
  FS ⟨P, w, K, mg, base, ["script", "dice", "wrong", "parts", "small", "k", "one", "row", "low", "a", "b", "rest", "top", "count", "pair"], defScope s_law, 8, cl, E, fun _ => true, [(Pt, (("law" : Str) ++ (".<locals>." : Str)) ++ "<lambda>")], .ref C, ("law" : Str) ++ (".<locals>." : Str)⟩ (forBody (defBody s_law)) b_body :=
  have LD : LamD ⟨P, w, K, mg, base, ["script", "dice", "wrong", "parts", "small", "k", "one", "row", "low", "a", "b", "rest", "top", "count", "pair"], defScope s_law, 8, cl, E, fun _ => true, [(Pt, (("law" : Str) ++ (".<locals>." : Str)) ++ "<lambda>")], .ref C, ("law" : Str) ++ (".<locals>." : Str)⟩ C Pt := ⟨rfl, rfl, tb⟩
  (fs_cons (fs_setLc 3 [("k", 5)] sc_law.nd (fi_range1 T.b_range (fa_cons (fe_add fe_int (fe_roll 1 RD fe_int)) fa_nil)) (by kernel_rfl) (fg_name 5 sc_law.nd) fts_nil (fe_tup (fa_cons (fe_sub (fe_roll 1 RD fe_int) fe_int) (fa_cons (fe_add fe_int (fe_roll 1 RD fe_int)) fa_nil))) (by decide) (hsw := fun env h => sw_true (by rw [h]; rfl) (by rw [h]; rfl) rfl (by kernel_rfl))) (fs_cons (fs_setLc 4 [("top", 12), ("low", 8)] sc_law.nd (fi_seq (fe_var 3)) (by kernel_rfl) (fg_tup (fgs_cons (fg_name 12 sc_law.nd) (fgs_cons (fg_name 8 sc_law.nd) fgs_nil))) fts_nil (fe_call d_part (fa_cons (fe_var 12) (fa_cons (fe_var 8) fa_nil))) (by decide) (hsw := fun env h => sw_true (by rw [h]; rfl) (by rw [h]; rfl) rfl (by kernel_rfl))) (fs_cons (fs_for (fi_range1 T.b_range (fa_cons (fe_len T.b_len (fa_cons (fe_var 3) fa_nil)) fa_nil)) (fg_name 5 sc_law.nd) (fs_cons (fs_if (ft_ne (fe_mul (fe_ix (fe_ix (fe_var 4) (fe_var 5)) fe_int) (fe_ix (fe_ix (fe_var 3) (fe_var 5)) fe_int)) (fe_mul (fe_ix (fe_ix (fe_var 3) (fe_var 5)) fe_int) (fe_ix (fe_ix (fe_var 4) (fe_var 5)) fe_int))) (fs_one (fs_ret fe_bl)) fs_nil) (fs_cons (fs_if (ft_lt (fe_ix (fe_ix (fe_var 4) (fe_var 5)) fe_int) fe_int) (fs_one (fs_ret fe_bl)) fs_nil) (fs_cons (fs_if (ft_w (fw_and (ft_ne (fe_call d_shared (fa_cons (fe_abs T.b_abs (fa_cons (fe_ix (fe_ix (fe_var 4) (fe_var 5)) fe_int) fa_nil)) (fa_cons (fe_ix (fe_ix (fe_var 4) (fe_var 5)) fe_int) fa_nil))) fe_int) (fw_and1 (ft_ne (fe_ix (fe_ix (fe_var 4) (fe_var 5)) fe_int) fe_int)))) (fs_one (fs_ret fe_bl)) fs_nil) (fs_one (fs_if (ft_ne (fe_call d_part (fa_cons (fe_sub fe_int (fe_ix (fe_ix (fe_var 3) (fe_var 5)) fe_int)) (fa_cons (fe_sub fe_int (fe_ix (fe_ix (fe_var 3) (fe_var 5)) fe_int)) fa_nil))) (fe_ix (fe_var 4) (fe_var 5))) (fs_one (fs_ret fe_bl)) fs_nil)))))) (fs_cons (fs_par 9 10 sc_law.nd (fa_cons (fe_ix (fe_var 4) fe_int) (fa_cons (fe_ix (fe_var 4) fe_int) fa_nil)) (hw := fun env h => by first | rfl | (cases env; cases h; rfl))) (fs_cons (fs_if (ft_w (fw_or (ft_ne (fe_mul (fe_mul (fe_ix (fe_call d_plus (fa_cons (fe_var 9) (fa_cons (fe_var 10) fa_nil))) fe_int) (fe_ix (fe_var 9) fe_int)) (fe_ix (fe_var 10) fe_int)) (fe_mul (fe_add (fe_mul (fe_ix (fe_var 9) fe_int) (fe_ix (fe_var 10) fe_int)) (fe_mul (fe_ix (fe_var 10) fe_int) (fe_ix (fe_var 9) fe_int))) (fe_ix (fe_call d_plus (fa_cons (fe_var 9) (fa_cons (fe_var 10) fa_nil))) fe_int))) (fw_or (ft_ne (fe_call d_minus (fa_cons (fe_call d_plus (fa_cons (fe_var 9) (fa_cons (fe_var 10) fa_nil))) (fa_cons (fe_var 10) fa_nil))) (fe_var 9)) (fw_or1 (ft_ne (fe_mul (fe_mul (fe_ix (fe_call d_times (fa_cons (fe_var 9) (fa_cons (fe_var 10) fa_nil))) fe_int) (fe_ix (fe_var 9) fe_int)) (fe_ix (fe_var 10) fe_int)) (fe_mul (fe_mul (fe_ix (fe_var 9) fe_int) (fe_ix (fe_var 10) fe_int)) (fe_ix (fe_call d_times (fa_cons (fe_var 9) (fa_cons (fe_var 10) fa_nil))) fe_int))))))) (fs_one (fs_ret fe_bl)) fs_nil) (fs_cons (fs_for (fi_seq (fe_add (fe_lst (fa_cons (fe_call d_plus (fa_cons (fe_var 9) (fa_cons (fe_var 10) fa_nil))) (fa_cons (fe_call d_minus (fa_cons (fe_var 9) (fa_cons (fe_var 10) fa_nil))) (fa_cons (fe_call d_times (fa_cons (fe_var 9) (fa_cons (fe_var 10) fa_nil))) fa_nil)))) (fe_ite (ft_ne (fe_ix (fe_var 10) fe_int) fe_int) (fe_lst (fa_cons (fe_call d_by (fa_cons (fe_var 9) (fa_cons (fe_var 10) fa_nil))) fa_nil)) (fe_lst fa_nil)))) (fg_name 6 sc_law.nd) (fs_one (fs_if (ft_w (fw_or (ft_lt (fe_ix (fe_var 6) fe_int) fe_int) (fw_or (ft_w (fw_and (ft_ne (fe_ix (fe_var 6) fe_int) fe_int) (fw_and1 (ft_ne (fe_call d_shared (fa_cons (fe_abs T.b_abs (fa_cons (fe_ix (fe_var 6) fe_int) fa_nil)) (fa_cons (fe_ix (fe_var 6) fe_int) fa_nil))) fe_int)))) (fw_or1 (ft_w (fw_and (ft_eq (fe_ix (fe_var 6) fe_int) fe_int) (fw_and1 (ft_ne (fe_ix (fe_var 6) fe_int) fe_int)))))))) (fs_one (fs_ret fe_bl)) fs_nil))) (fs_cons (fs_if (ft_w (fw_or (ft_ne (fe_call d_is_less (fa_cons (fe_var 9) (fa_cons (fe_var 10) fa_nil))) (fe_call d__law_less (fa_cons (fe_var 9) (fa_cons (fe_var 10) fa_nil)))) (fw_or (ft_ne (fe_call d_least (fa_cons (fe_var 9) (fa_cons (fe_var 10) fa_nil))) (fe_ite (ft_val (fe_call d__law_less (fa_cons (fe_var 10) (fa_cons (fe_var 9) fa_nil)))) (fe_var 10) (fe_var 9))) (fw_or1 (ft_ne (fe_call d_greatest (fa_cons (fe_var 9) (fa_cons (fe_var 10) fa_nil))) (fe_ite (ft_val (fe_call d__law_less (fa_cons (fe_var 9) (fa_cons (fe_var 10) fa_nil)))) (fe_var 10) (fe_var 9))))))) (fs_one (fs_ret fe_bl)) fs_nil) (fs_cons (fs_if (ft_w (fw_or (ft_w (fw_and (ft_ne (fe_ix (fe_var 10) fe_int) fe_int) (fw_and1 (ft_ne (fe_call d_times (fa_cons (fe_call d_by (fa_cons (fe_var 9) (fa_cons (fe_var 10) fa_nil))) (fa_cons (fe_var 10) fa_nil))) (fe_var 9))))) (fw_or (ft_gt (fe_mul (fe_call d_whole_below (fa_cons (fe_var 9) fa_nil)) (fe_ix (fe_var 9) fe_int)) (fe_ix (fe_var 9) fe_int)) (fw_or1 (ft_le (fe_mul (fe_add (fe_call d_whole_below (fa_cons (fe_var 9) fa_nil)) fe_int) (fe_ix (fe_var 9) fe_int)) (fe_ix (fe_var 9) fe_int)))))) (fs_one (fs_ret fe_bl)) fs_nil) (fs_cons (fs_if (ft_gt (fe_ix (fe_var 10) fe_int) fe_int) (fs_cons (fs_set 11 sc_law.nd (fe_call d_rest_by (fa_cons (fe_var 9) (fa_cons (fe_var 10) fa_nil)))) (fs_one (fs_if (ft_w (fw_or (ft_lt (fe_ix (fe_var 11) fe_int) fe_int) (fw_or (ft_not (ft_val (fe_call d_is_less (fa_cons (fe_var 11) (fa_cons (fe_var 10) fa_nil))))) (fw_or1 (ft_ne (fe_ix (fe_call d_by (fa_cons (fe_call d_minus (fa_cons (fe_var 9) (fa_cons (fe_var 11) fa_nil))) (fa_cons (fe_var 10) fa_nil))) fe_int) fe_int))))) (fs_one (fs_ret fe_bl)) fs_nil))) fs_nil) (fs_cons (fs_set 7 sc_law.nd (fe_call d_in_order (fa_cons (fe_var 4) fa_nil))) (fs_cons (fs_if (ft_w (fw_or (ft_ne (fe_sorted T.b_sorted (fa_cons (fe_var 7) fa_nil)) (fe_sorted T.b_sorted (fa_cons (fe_var 4) fa_nil))) (fw_or1 (ft_ne (fe_lc [("k", 5)] sc_law.nd (fi_range2 T.b_range (fa_cons fe_int (fa_cons (fe_len T.b_len (fa_cons (fe_var 7) fa_nil)) fa_nil))) (by kernel_rfl) (fg_name 5 sc_law.nd) (fts_one (ft_val (fe_call d__law_less (fa_cons (fe_ix (fe_var 7) (fe_var 5)) (fa_cons (fe_ix (fe_var 7) (fe_sub (fe_var 5) fe_int)) fa_nil))))) (fe_var 5) (by decide)) (fe_lst fa_nil))))) (fs_one (fs_ret fe_bl)) fs_nil) (fs_cons (fs_set 8 sc_law.nd fe_int) (fs_cons (fs_for (fi_seq (fe_var 4)) (fg_tup (fgs_cons (fg_name 12 sc_law.nd) (fgs_cons (fg_name 13 sc_law.nd) fgs_nil))) (fs_one (fs_set 8 sc_law.nd (fe_mul (fe_var 8) (fe_var 13))))) (fs_one (fs_if (ft_ne (fe_mul (fe_ix (fe_call d_total (fa_cons (fe_var 4) fa_nil)) fe_int) (fe_var 8)) (fe_mul (fe_sum T.b_sum (fa_cons (fe_lc [("top", 12), ("count", 13)] sc_law.nd (fi_seq (fe_var 4)) (by kernel_rfl) (fg_tup (fgs_cons (fg_name 12 sc_law.nd) (fgs_cons (fg_name 13 sc_law.nd) fgs_nil))) fts_nil (fe_mul (fe_var 12) (fe_fdiv (fe_var 8) (fe_var 13))) (by decide)) fa_nil)) (fe_ix (fe_call d_total (fa_cons (fe_var 4) fa_nil)) fe_int))) (fs_one (fs_ret fe_bl)) fs_nil)))))))))))))))
noncomputable def b_rest : Fo := (seqS (thenS (lstM (consM (tupM (consM (pureM (.fn lam_3)) (consM (pureM (.str "time")) (pureM [])))) (consM (tupM (consM (pureM (.fn lam_2)) (consM (pureM (.str "time")) (pureM [])))) (consM (tupM (consM (pureM (.fn lam_1)) (consM (pureM (.str "time")) (pureM [])))) (consM (tupM (consM (pureM (.fn lam_0)) (consM (pureM (.str "time")) (pureM [])))) (pureM [])))))) fun d δ => some (.nx (δ.set 2 (.val d)))) (thenS (andM (bin2 eqD (lcM [14] (bName 14) (tst (bin2 neD (toldK NL LT (bin2 ixD (varM 14) (pureM (.int 0)))) (bin2 ixD (varM 14) (pureM (.int 1))))) (varM 14) (seqM (varM 2))) (lstM (pureM []))) (andM (bin2 eqD (callM F_check_length (consM (tupM (consM (pureM (.int 2)) (consM (pureM (.int 4)) (pureM [])))) (pureM []))) (tupM (consM (pureM (.int 1)) (consM (pureM (.int 2)) (pureM []))))) (bin2 eqD (callM F_part (consM (pureM (.int 0)) (consM (pureM (.int 7)) (pureM [])))) (tupM (consM (pureM (.int 0)) (consM (pureM (.int 1)) (pureM []))))))) fun d _ => some (.rt d)))
theorem fs_rest {P : Program} {w : World} {K : PySem.W.Frag} {mg : Str → Option Value} {base : Heap} {cl : Nat → Addr} {C Pt : Addr} (T : TX K mg cl) (d__law_less : FnD P w K mg base cl 1 "_law_less" F__law_less) (d_by : FnD P w K mg base cl 3 "by" F_by) (d_check_length : FnD P w K mg base cl 3 "check_length" F_check_length) (d_greatest : FnD P w K mg base cl 2 "greatest" F_greatest) (d_in_order : FnD P w K mg base cl 2 "in_order" F_in_order) (d_is_less : FnD P w K mg base cl 1 "is_less" F_is_less) (d_least : FnD P w K mg base cl 2 "least" F_least) (d_minus : FnD P w K mg base cl 4 "minus" F_minus) (d_part : FnD P w K mg base cl 2 "part" F_part) (d_plus : FnD P w K mg base cl 3 "plus" F_plus) (d_rest_by : FnD P w K mg base cl 5 "rest_by" F_rest_by) (d_shared : FnD P w K mg base cl 1 "shared" F_shared) (d_times : FnD P w K mg base cl 3 "times" F_times) (d_total : FnD P w K mg base cl 4 "total" F_total) (d_whole_below : FnD P w K mg base cl 1 "whole_below" F_whole_below) (RD : RollD P w K mg base) (TD : ToldD P w K mg base cl NL) (tb : LamX.TabB base mg C Pt) (E : XK) :
  FS ⟨P, w, K, mg, base, ["script", "dice", "wrong", "parts", "small", "k", "one", "row", "low", "a", "b", "rest", "top", "count", "pair"], defScope s_law, 8, cl, E, fun _ => true, [(Pt, (("law" : Str) ++ (".<locals>." : Str)) ++ "<lambda>")], .ref C, ("law" : Str) ++ (".<locals>." : Str)⟩ ((defBody s_law).tail) b_rest :=
  have LD : LamD ⟨P, w, K, mg, base, ["script", "dice", "wrong", "parts", "small", "k", "one", "row", "low", "a", "b", "rest", "top", "count", "pair"], defScope s_law, 8, cl, E, fun _ => true, [(Pt, (("law" : Str) ++ (".<locals>." : Str)) ++ "<lambda>")], .ref C, ("law" : Str) ++ (".<locals>." : Str)⟩ C Pt := ⟨rfl, rfl, tb⟩
  (fs_cons (fs_set 2 sc_law.nd (fe_lst (fa_cons (fe_tup (fa_cons (fe_lam 3 ⟨LD.code, LD.T, LD.tb⟩) (fa_cons fe_str fa_nil))) (fa_cons (fe_tup (fa_cons (fe_lam 2 ⟨LD.code, LD.T, LD.tb⟩) (fa_cons fe_str fa_nil))) (fa_cons (fe_tup (fa_cons (fe_lam 1 ⟨LD.code, LD.T, LD.tb⟩) (fa_cons fe_str fa_nil))) (fa_cons (fe_tup (fa_cons (fe_lam 0 ⟨LD.code, LD.T, LD.tb⟩) (fa_cons fe_str fa_nil))) fa_nil)))))) (fs_one (fs_ret (fe_and (fe_eq (fe_lc [("pair", 14)] sc_law.nd (fi_seq (fe_var 2)) (by kernel_rfl) (fg_name 14 sc_law.nd) (fts_one (ft_ne (fe_toldK 5 TD ⟨LD.code, LD.T, LD.tb⟩ (lk_cons ⟨rfl, by kernel_rfl, rfl, by intros; rfl, fun E => (fe_call d_check_length (fa_cons (fe_tup (fa_cons (fe_sub fe_int fe_int) (fa_cons fe_int fa_nil))) fa_nil))⟩ (lk_cons ⟨rfl, by kernel_rfl, rfl, by intros; rfl, fun E => (fe_call d_check_length (fa_cons (fe_tup (fa_cons fe_int (fa_cons fe_int fa_nil))) fa_nil))⟩ (lk_cons ⟨rfl, by kernel_rfl, rfl, by intros; rfl, fun E => (fe_call d_by (fa_cons (fe_tup (fa_cons fe_int (fa_cons fe_int fa_nil))) (fa_cons (fe_tup (fa_cons fe_int (fa_cons fe_int fa_nil))) fa_nil)))⟩ (lk_cons ⟨rfl, by kernel_rfl, rfl, by intros; rfl, fun E => (fe_call d_part (fa_cons fe_int (fa_cons fe_int fa_nil)))⟩ lk_nil)))) (fe_ix (fe_var 14) fe_int)) (fe_ix (fe_var 14) fe_int))) (fe_var 14) (by decide)) (fe_lst fa_nil)) (fe_and (fe_eq (fe_call d_check_length (fa_cons (fe_tup (fa_cons fe_int (fa_cons fe_int fa_nil))) fa_nil)) (fe_tup (fa_cons fe_int (fa_cons fe_int fa_nil)))) (fe_one (fe_eq (fe_call d_part (fa_cons fe_int (fa_cons fe_int fa_nil))) (fe_tup (fa_cons fe_int (fa_cons fe_int fa_nil))))))))))
/-! fractions -/
def Q (N p q : Int) : Prop := 0 < q ∧ q ≤ N ∧ -N ≤ p ∧ p ≤ N ∧ Nat.gcd p.natAbs q.natAbs = 1
theorem uniq {p q p' q' : Int} (h1 : 0 < q) (h2 : 0 < q') (g1 : Nat.gcd p.natAbs q.natAbs = 1) (g2 : Nat.gcd p'.natAbs q'.natAbs = 1) (e : p * q' = p' * q) : p = p' ∧ q = q' := by
  have en : p.natAbs * q'.natAbs = p'.natAbs * q.natAbs := by rw [← Int.natAbs_mul, ← Int.natAbs_mul, e]
  have d1 : q.natAbs ∣ q'.natAbs := Nat.Coprime.dvd_of_dvd_mul_left (Nat.coprime_comm.mp g1) ⟨p'.natAbs, by rw [en, Nat.mul_comm]⟩
  have d2 : q'.natAbs ∣ q.natAbs := Nat.Coprime.dvd_of_dvd_mul_left (Nat.coprime_comm.mp g2) ⟨p.natAbs, by rw [← en, Nat.mul_comm]⟩
  have eq : q = q' := by have := Nat.dvd_antisymm d1 d2; omega
  subst eq
  exact ⟨Int.eq_of_mul_eq_mul_right (by omega) e, rfl⟩
theorem mb {A B x y : Int} (h1 : -A ≤ x) (h2 : x ≤ A) (h3 : -B ≤ y) (h4 : y ≤ B) : -(A * B) ≤ x * y ∧ x * y ≤ A * B := by
  have hx : x.natAbs ≤ A.natAbs := by omega
  have hy : y.natAbs ≤ B.natAbs := by omega
  have hm := Nat.mul_le_mul hx hy
  have e1 : (x * y).natAbs = x.natAbs * y.natAbs := Int.natAbs_mul _ _
  have e2 : (A * B).natAbs = A.natAbs * B.natAbs := Int.natAbs_mul _ _
  have e3 : 0 ≤ A * B := Int.mul_nonneg (by omega) (by omega)
  omega
abbrev fr (p q : Int) : D := .tup [.int p, .int q]
theorem sgn_div {t s : Int} (h : s ∣ t) : t.fdiv s * s = t := Int.fdiv_mul_cancel h
theorem e_shared (a b : Int) : F_shared [.int a, .int b] = some (.ret (.int (Nat.gcd a.natAbs b.natAbs : Nat))) := rfl
theorem e_part (N t l : Int) (hl : l ≠ 0) (h1 : -N ≤ l) (h2 : l ≤ N) (h3 : -N ≤ t) (h4 : t ≤ N) (hN : N < 1073741824) : ∃ p q, F_part [.int t, .int l] = some (.ret (fr p q)) ∧ Q N p q ∧ p * l = t * q := by
  let g : Int := ((Nat.gcd t.natAbs l.natAbs : Nat) : Int)
  have gpos : 0 < Nat.gcd t.natAbs l.natAbs := Nat.gcd_pos_of_pos_right _ (by omega)
  have gl : (Nat.gcd t.natAbs l.natAbs) ≤ l.natAbs := Nat.le_of_dvd (by omega) (Nat.gcd_dvd_right _ _)
  let s : Int := if l < 0 then -g else g
  have hs : s ≠ 0 ∧ s.natAbs = Nat.gcd t.natAbs l.natAbs := by
    show (if l < 0 then -g else g) ≠ 0 ∧ (if l < 0 then -g else g).natAbs = _
    split <;> (constructor <;> (show _ ; omega))
  have dt : s ∣ t := Int.natAbs_dvd_natAbs.mp (by rw [hs.2]; exact Nat.gcd_dvd_left _ _)
  have dl : s ∣ l := Int.natAbs_dvd_natAbs.mp (by rw [hs.2]; exact Nat.gcd_dvd_right _ _)
  have et := sgn_div dt
  have el := sgn_div dl
  have run : F_part [.int t, .int l] = some (.ret (fr (t.fdiv s) (l.fdiv s))) := by
    have hc : CDivN t s := ⟨hs.1, by omega⟩
    have hc' : CDivN l s := ⟨hs.1, by omega⟩
    by_cases h : l < 0
    · have es : s = -g := if_pos h
      rw [es] at hc hc' ⊢
      simp [F_part, b_part, defF, startD, seqS, thenS, FL.bindM, pureM, varM, liftO, FL.consM, callM, resM, callB, bin2, un1, tst, toB, FL.andM, FL.orM, FL.notM, andT, orT, iteM, chainM, tupM, lstM, intM, subD, mulD, modD, fdivD, addD, ltD, leD, gtD, geD, eqD_int, neD_int, eqD_bl, neD_bl, negD, int2, int2C, absD, lenD, FL.intD, outRes, nxS, bName, bTup, bCons, bNil, seqOf, e_shared, fdivD, hl, h, hc, hc', g]
    · have es : s = g := if_neg h
      rw [es] at hc hc' ⊢
      simp [F_part, b_part, defF, startD, seqS, thenS, FL.bindM, pureM, varM, liftO, FL.consM, callM, resM, callB, bin2, un1, tst, toB, FL.andM, FL.orM, FL.notM, andT, orT, iteM, chainM, tupM, lstM, intM, subD, mulD, modD, fdivD, addD, ltD, leD, gtD, geD, eqD_int, neD_int, eqD_bl, neD_bl, negD, int2, int2C, absD, lenD, FL.intD, outRes, nxS, bName, bTup, bCons, bNil, seqOf, e_shared, fdivD, hl, h, hc, hc', g]
  generalize t.fdiv s = p at run et
  generalize l.fdiv s = q at run el
  have at1 : t.natAbs = p.natAbs * s.natAbs := by rw [← Int.natAbs_mul, et]
  have al1 : l.natAbs = q.natAbs * s.natAbs := by rw [← Int.natAbs_mul, el]
  have s1 : 1 ≤ s.natAbs := by omega
  have bp : p.natAbs ≤ t.natAbs := by rw [at1]; exact Nat.le_mul_of_pos_right _ s1
  have bq : q.natAbs ≤ l.natAbs := by rw [al1]; exact Nat.le_mul_of_pos_right _ s1
  have qpos : 0 < q := by
    by_cases h : l < 0
    · have es : s = -g := if_pos h
      have s0 : s < 0 := by rw [es]; show -((Nat.gcd t.natAbs l.natAbs : Nat) : Int) < 0; omega
      rcases Int.lt_trichotomy q 0 with z | z | z
      · have := Int.mul_pos_of_neg_of_neg z s0; omega
      · rw [z, Int.zero_mul] at el; omega
      · exact z
    · have es : s = g := if_neg h
      have s0 : 0 < s := by rw [es]; show 0 < ((Nat.gcd t.natAbs l.natAbs : Nat) : Int); omega
      rcases Int.lt_trichotomy q 0 with z | z | z
      · have := Int.mul_neg_of_neg_of_pos z s0; omega
      · rw [z, Int.zero_mul] at el; omega
      · exact z
  refine ⟨p, q, run, ⟨qpos, by omega, by omega, by omega, ?_⟩, by rw [← et, ← el]; grind⟩
  have e := hs.2
  rw [at1, al1, Nat.gcd_mul_right] at e
  exact Nat.eq_of_mul_eq_mul_right (by omega : 0 < s.natAbs) (by omega)
theorem cm {i j : Int} (h : -(18446744073709551616) < i ∧ i < 18446744073709551616) : CMul i j := by
  unfold CMul
  rw [show (2 : Int) ^ 64 = 18446744073709551616 by decide]
  exact .inl h
theorem e_part' {N t l : Int} (h : Q N t l) (hN : N < 1073741824) : F_part [.int t, .int l] = some (.ret (fr t l)) := by
  obtain ⟨a1, a2, a3, a4, a5⟩ := h
  obtain ⟨p, q, e, ⟨b1, b2, b3, b4, b5⟩, c⟩ := e_part N t l (by omega) (by omega) a2 a3 a4 hN
  obtain ⟨e1, e2⟩ := uniq b1 a1 b5 a5 c
  rw [e, e1, e2]
theorem e_plus {M N a0 a1 b0 b1 : Int} (ha : Q M a0 a1) (hb : Q N b0 b1) (h : 2 * (M * N) < 1073741824) : ∃ p q, F_plus [fr a0 a1, fr b0 b1] = some (.ret (fr p q)) ∧ Q (2 * (M * N)) p q ∧ p * (a1 * b1) = (a0 * b1 + b0 * a1) * q := by
  obtain ⟨x1, x2, x3, x4, x5⟩ := ha
  obtain ⟨y1, y2, y3, y4, y5⟩ := hb
  have m1 := mb x3 x4 (show -N ≤ b1 by omega) y2
  have m2 := mb y3 y4 (show -M ≤ a1 by omega) x2
  have m3 := mb (show -M ≤ a1 by omega) x2 (show -N ≤ b1 by omega) y2
  have m4 : N * M = M * N := Int.mul_comm _ _
  have m5 : 0 < a1 * b1 := Int.mul_pos x1 y1
  have m6 : M ≤ M * N := by have := Int.mul_le_mul_of_nonneg_left (show 1 ≤ N by omega) (show 0 ≤ M by omega); omega
  have m7 : N ≤ M * N := by have := Int.mul_le_mul_of_nonneg_right (show 1 ≤ M by omega) (show 0 ≤ N by omega); omega
  obtain ⟨p, q, e, hq, c⟩ := e_part (2 * (M * N)) (a0 * b1 + b0 * a1) (a1 * b1) (by omega) (by omega) (by omega) (by omega) (by omega) h
  refine ⟨p, q, ?_, hq, c⟩
  have c1 : CMul a0 b1 := cm (by omega)
  have c2 : CMul b0 a1 := cm (by omega)
  have c3 : CMul a1 b1 := cm (by omega)
  show outRes (b_plus [.val (fr a0 a1), .val (fr b0 b1)]) = _
  unfold b_plus
  rw [thenS_ok (call_of (cons_of (bin2_of (bin2_of (bin2_of rfl rfl rfl) (bin2_of rfl rfl rfl) (if_pos c1)) (bin2_of (bin2_of rfl rfl rfl) (bin2_of rfl rfl rfl) (if_pos c2)) rfl) (one_of (bin2_of (bin2_of rfl rfl rfl) (bin2_of rfl rfl rfl) (if_pos c3)))) e)]
  rfl

theorem gcd_neg (p q : Int) : Nat.gcd (-p).natAbs q.natAbs = Nat.gcd p.natAbs q.natAbs := by rw [Int.natAbs_neg]
theorem e_minus {M N a0 a1 b0 b1 : Int} (ha : Q M a0 a1) (hb : Q N b0 b1) (h : 2 * (M * N) < 1073741824) : ∃ p q, F_minus [fr a0 a1, fr b0 b1] = some (.ret (fr p q)) ∧ Q (2 * (M * N)) p q ∧ p * (a1 * b1) = (a0 * b1 - b0 * a1) * q := by
  obtain ⟨y1, y2, y3, y4, y5⟩ := hb
  obtain ⟨p, q, e, hq, c⟩ := e_plus ha (show Q N (-b0) b1 from ⟨y1, y2, by omega, by omega, by rw [gcd_neg]; exact y5⟩) h
  refine ⟨p, q, ?_, hq, by grind⟩
  show outRes (b_minus [.val (fr a0 a1), .val (fr b0 b1)]) = _
  unfold b_minus
  rw [thenS_ok (call_of (cons_of rfl (one_of rfl)) e)]
  rfl
theorem e_times {M N a0 a1 b0 b1 : Int} (ha : Q M a0 a1) (hb : Q N b0 b1) (h : M * N < 1073741824) : ∃ p q, F_times [fr a0 a1, fr b0 b1] = some (.ret (fr p q)) ∧ Q (M * N) p q ∧ p * (a1 * b1) = (a0 * b0) * q := by
  obtain ⟨x1, x2, x3, x4, x5⟩ := ha
  obtain ⟨y1, y2, y3, y4, y5⟩ := hb
  have m1 := mb x3 x4 y3 y4
  have m3 := mb (show -M ≤ a1 by omega) x2 (show -N ≤ b1 by omega) y2
  have m5 : 0 < a1 * b1 := Int.mul_pos x1 y1
  have m6 : M ≤ M * N := by have := Int.mul_le_mul_of_nonneg_left (show 1 ≤ N by omega) (show 0 ≤ M by omega); omega
  obtain ⟨p, q, e, hq, c⟩ := e_part (M * N) (a0 * b0) (a1 * b1) (by omega) (by omega) (by omega) (by omega) (by omega) h
  refine ⟨p, q, ?_, hq, c⟩
  have c1 : CMul a0 b0 := cm (by omega)
  have c3 : CMul a1 b1 := cm (by omega)
  show outRes (b_times [.val (fr a0 a1), .val (fr b0 b1)]) = _
  unfold b_times
  rw [thenS_ok (call_of (cons_of (bin2_of (bin2_of rfl rfl rfl) (bin2_of rfl rfl rfl) (if_pos c1)) (one_of (bin2_of (bin2_of rfl rfl rfl) (bin2_of rfl rfl rfl) (if_pos c3)))) e)]
  rfl
theorem e_by {M N a0 a1 b0 b1 : Int} (ha : Q M a0 a1) (hb : Q N b0 b1) (h0 : b0 ≠ 0) (h : M * N < 1073741824) : ∃ p q, F_by [fr a0 a1, fr b0 b1] = some (.ret (fr p q)) ∧ Q (M * N) p q ∧ p * (a1 * b0) = (a0 * b1) * q := by
  obtain ⟨x1, x2, x3, x4, x5⟩ := ha
  obtain ⟨y1, y2, y3, y4, y5⟩ := hb
  have m1 := mb x3 x4 (show -N ≤ b1 by omega) y2
  have m3 := mb (show -M ≤ a1 by omega) x2 y3 y4
  have m5 : a1 * b0 ≠ 0 := Int.mul_ne_zero (by omega) h0
  have m6 : M ≤ M * N := by have := Int.mul_le_mul_of_nonneg_left (show 1 ≤ N by omega) (show 0 ≤ M by omega); omega
  obtain ⟨p, q, e, hq, c⟩ := e_part (M * N) (a0 * b1) (a1 * b0) m5 (by omega) (by omega) (by omega) (by omega) h
  refine ⟨p, q, ?_, hq, c⟩
  have c1 : CMul a0 b1 := cm (by omega)
  have c3 : CMul a1 b0 := cm (by omega)
  show outRes (b_by [.val (fr a0 a1), .val (fr b0 b1)]) = _
  unfold b_by
  rw [thenS_ok (call_of (cons_of (bin2_of (bin2_of rfl rfl rfl) (bin2_of rfl rfl rfl) (if_pos c1)) (one_of (bin2_of (bin2_of rfl rfl rfl) (bin2_of rfl rfl rfl) (if_pos c3)))) e)]
  rfl
def less (a0 a1 b0 b1 : Int) : Bool := decide (a0 * b1 < b0 * a1)
theorem e_less {M N a0 a1 b0 b1 : Int} (ha : Q M a0 a1) (hb : Q N b0 b1) (h : M * N < 1073741824) : F_is_less [fr a0 a1, fr b0 b1] = some (.ret (.bl (less a0 a1 b0 b1))) := by
  obtain ⟨x1, x2, x3, x4, x5⟩ := ha
  obtain ⟨y1, y2, y3, y4, y5⟩ := hb
  have m1 := mb x3 x4 (show -N ≤ b1 by omega) y2
  have m2 := mb y3 y4 (show -M ≤ a1 by omega) x2
  have m6 : M ≤ M * N := by have := Int.mul_le_mul_of_nonneg_left (show 1 ≤ N by omega) (show 0 ≤ M by omega); omega
  have m7 : N ≤ M * N := by have := Int.mul_le_mul_of_nonneg_right (show 1 ≤ M by omega) (show 0 ≤ N by omega); omega
  have c1 : CMul a0 b1 := cm (by omega)
  have c2 : CMul b0 a1 := cm (by omega)
  show outRes (b_is_less [.val (fr a0 a1), .val (fr b0 b1)]) = _
  unfold b_is_less
  rw [thenS_ok (bin2_of (bin2_of (bin2_of rfl rfl rfl) (bin2_of rfl rfl rfl) (if_pos c1)) (bin2_of (bin2_of rfl rfl rfl) (bin2_of rfl rfl rfl) (if_pos c2)) rfl)]
  rfl
theorem e_lawless {M N a0 a1 b0 b1 : Int} (ha : Q M a0 a1) (hb : Q N b0 b1) (h : M * N < 1073741824) : F__law_less [fr a0 a1, fr b0 b1] = some (.ret (.bl (less a0 a1 b0 b1))) := e_less ha hb h
theorem e_least {M N a0 a1 b0 b1 : Int} (ha : Q M a0 a1) (hb : Q N b0 b1) (h : M * N < 1073741824) : F_least [fr a0 a1, fr b0 b1] = some (.ret (if less b0 b1 a0 a1 then fr b0 b1 else fr a0 a1)) := by
  have e := e_less hb ha (by rw [Int.mul_comm]; exact h)
  show outRes (b_least [.val (fr a0 a1), .val (fr b0 b1)]) = _
  unfold b_least iteM
  cases hl : less b0 b1 a0 a1 <;> rw [hl] at e <;> rw [thenS_ok (by rw [bindM_ok (tst_of (call_of (cons_of rfl (one_of rfl)) e))]; rfl)] <;> rfl
theorem e_greatest {M N a0 a1 b0 b1 : Int} (ha : Q M a0 a1) (hb : Q N b0 b1) (h : M * N < 1073741824) : F_greatest [fr a0 a1, fr b0 b1] = some (.ret (if less a0 a1 b0 b1 then fr b0 b1 else fr a0 a1)) := by
  have e := e_less ha hb h
  show outRes (b_greatest [.val (fr a0 a1), .val (fr b0 b1)]) = _
  unfold b_greatest iteM
  cases hl : less a0 a1 b0 b1 <;> rw [hl] at e <;> rw [thenS_ok (by rw [bindM_ok (tst_of (call_of (cons_of rfl (one_of rfl)) e))]; rfl)] <;> rfl
theorem e_whole {N a0 a1 : Int} (ha : Q N a0 a1) (h : N < 1073741824) : F_whole_below [fr a0 a1] = some (.ret (.int (a0 / a1))) := by
  obtain ⟨x1, x2, x3, x4, x5⟩ := ha
  have c : CDivN a0 a1 := ⟨by omega, by omega⟩
  show outRes (b_whole_below [.val (fr a0 a1)]) = _
  unfold b_whole_below
  rw [thenS_ok (bin2_of (bin2_of rfl rfl rfl) (bin2_of rfl rfl rfl) (show fdivD _ _ = some (.int (a0 / a1)) by unfold fdivD int2C; dsimp only; rw [if_pos c, Int.fdiv_eq_ediv_of_nonneg a0 (by omega)]))]
  rfl

/-- the rest of a by b -/
theorem e_rest {a0 a1 b0 b1 : Int} (ha : Q 9 a0 a1) (hb : Q 9 b0 b1) (h0 : 0 < b0) : ∃ r0 r1, F_rest_by [fr a0 a1, fr b0 b1] = some (.ret (fr r0 r1)) ∧ Q 13122 r0 r1 ∧ 0 ≤ r0 ∧ less r0 r1 b0 b1 = true ∧
    ∃ m0 m1 n0, F_minus [fr a0 a1, fr r0 r1] = some (.ret (fr m0 m1)) ∧ F_by [fr m0 m1, fr b0 b1] = some (.ret (fr n0 1)) := by
  obtain ⟨c0, c1, ec, hc, kc⟩ := e_by ha hb (by omega) (by decide)
  have hw := e_whole hc (by decide)
  have hc' := hc
  obtain ⟨z1, z2, z3, z4, z5⟩ := hc'
  obtain ⟨w, hw0⟩ : ∃ w, c0 / c1 = w := ⟨_, rfl⟩
  have w1 : w * c1 ≤ c0 := by rw [← hw0]; exact Int.ediv_mul_le c0 (by omega)
  have w2 : c0 < (w + 1) * c1 := by rw [← hw0]; exact Int.lt_ediv_add_one_mul_self c0 z1
  rw [hw0] at hw
  have w3 : w ≤ 81 := by
    rcases Int.lt_or_le 81 w with z | z
    · have := Int.mul_le_mul (show (82 : Int) ≤ w by omega) (show (1 : Int) ≤ c1 by omega) (by omega) (by omega); omega
    · exact z
  have w4 : -81 ≤ w := by
    rcases Int.lt_or_le w (-81) with z | z
    · have := Int.mul_le_mul_of_nonneg_right (show w + 1 ≤ -81 by omega) (show 0 ≤ c1 by omega)
      omega
    · exact z
  have hp : Q 81 w 1 := ⟨by decide, by decide, w4, w3, by simp⟩
  have ep := e_part' hp (by decide)
  obtain ⟨d0, d1, ed, hd, kd⟩ := e_times hb hp (by decide)
  obtain ⟨r0, r1, er, hr, kr⟩ := e_minus ha hd (by decide)
  obtain ⟨a_1, a_2, a_3, a_4, a_5⟩ := ha
  obtain ⟨b_1, b_2, b_3, b_4, b_5⟩ := hb
  have hr' := hr
  obtain ⟨r_1, r_2, r_3, r_4, r_5⟩ := hr'
  have run : F_rest_by [fr a0 a1, fr b0 b1] = some (.ret (fr r0 r1)) := by
    have s1 : callM F_by (consM (varM 0) (consM (varM 1) (pureM []))) [.val (fr a0 a1), .val (fr b0 b1)] = some (.ok (fr c0 c1) [.val (fr a0 a1), .val (fr b0 b1)]) := call_of (cons_of rfl (one_of rfl)) ec
    have s2 := call_of (one_of s1) hw
    have s3 := call_of (f := fun l => F_part (l ++ [.int 1])) (one_of s2) ep
    have s4 := call_of (cons_of (show varM 1 [.val (fr a0 a1), .val (fr b0 b1)] = some (.ok (fr b0 b1) [.val (fr a0 a1), .val (fr b0 b1)]) from rfl) (one_of s3)) ed
    have s5 := call_of (cons_of (show varM 0 [.val (fr a0 a1), .val (fr b0 b1)] = some (.ok (fr a0 a1) [.val (fr a0 a1), .val (fr b0 b1)]) from rfl) (one_of s4)) er
    show outRes (b_rest_by [.val (fr a0 a1), .val (fr b0 b1)]) = _
    unfold b_rest_by
    rw [thenS_ok s5]
    rfl
  have x1 : w * (a1 * b0) ≤ a0 * b1 := by
    have e : (w * (a1 * b0)) * c1 ≤ (a0 * b1) * c1 := by
      have := Int.mul_le_mul_of_nonneg_right w1 (show 0 ≤ a1 * b0 from Int.mul_nonneg (by omega) (by omega))
      rw [show w * (a1 * b0) * c1 = w * c1 * (a1 * b0) by grind, ← kc]; exact this
    exact Int.le_of_mul_le_mul_right e z1
  have x2 : a0 * b1 < (w + 1) * (a1 * b0) := by
    have e : (a0 * b1) * c1 < ((w + 1) * (a1 * b0)) * c1 := by
      have := Int.mul_lt_mul_of_pos_right w2 (show 0 < a1 * b0 from Int.mul_pos (by omega) h0)
      rw [show (w + 1) * (a1 * b0) * c1 = (w + 1) * c1 * (a1 * b0) by grind, ← kc]; exact this
    exact Int.lt_of_mul_lt_mul_right e (by omega)
  have hd' := hd
  obtain ⟨d_1, d_2, d_3, d_4, d_5⟩ := hd'
  have E1 : r0 * (a1 * b1) = (a0 * b1 - b0 * w * a1) * r1 := by
    have : r0 * (a1 * b1) * d1 = (a0 * b1 - b0 * w * a1) * r1 * d1 := by grind
    exact Int.eq_of_mul_eq_mul_right (by omega) this
  have ab : 0 < a1 * b1 := Int.mul_pos a_1 b_1
  have r0n : 0 ≤ r0 := by
    have : 0 * (a1 * b1) ≤ r0 * (a1 * b1) := by
      rw [E1, Int.zero_mul]
      exact Int.mul_nonneg (by grind) (by omega)
    exact Int.le_of_mul_le_mul_right this ab
  have lt : less r0 r1 b0 b1 = true := by
    unfold less
    apply decide_eq_true
    have : (r0 * b1) * a1 < (b0 * r1) * a1 := by
      have e : (a0 * b1 - b0 * w * a1) * r1 < (b0 * a1) * r1 := Int.mul_lt_mul_of_pos_right (by grind) r_1
      grind
    exact Int.lt_of_mul_lt_mul_right this (by omega)
  obtain ⟨m0, m1, em, hm, km⟩ := e_minus (show Q 9 a0 a1 from ⟨a_1, a_2, a_3, a_4, a_5⟩) hr (by decide)
  obtain ⟨n0, n1, en, hn, kn⟩ := e_by hm (show Q 9 b0 b1 from ⟨b_1, b_2, b_3, b_4, b_5⟩) (by omega) (by decide)
  obtain ⟨m_1, m_2, m_3, m_4, m_5⟩ := hm
  obtain ⟨n_1, n_2, n_3, n_4, n_5⟩ := hn
  have M1 : m0 * b1 = b0 * w * m1 := by
    have : m0 * b1 * (a1 * r1) = b0 * w * m1 * (a1 * r1) := by grind
    exact Int.eq_of_mul_eq_mul_right (Int.mul_ne_zero (by omega) (by omega)) this
  have N1 : n0 * 1 = w * n1 := by
    have : n0 * 1 * (m1 * b0) = w * n1 * (m1 * b0) := by grind
    exact Int.eq_of_mul_eq_mul_right (Int.mul_ne_zero (by omega) (by omega)) this
  obtain ⟨_, u⟩ := uniq n_1 (by decide) n_5 (show Nat.gcd w.natAbs (1 : Int).natAbs = 1 by simp) N1
  subst u
  exact ⟨r0, r1, run, hr, r0n, lt, m0, m1, n0, em, en⟩
/-! the sum of all -/
abbrev fp (x : Int × Int) : D := fr x.1 x.2
def Lx : List (Int × Int) → Int → Int
  | [], L => L
  | x :: xs, L => Lx xs (L * x.2)
def Nx : List (Int × Int) → Int → Int → Int
  | [], _, N => N
  | x :: xs, L, N => Nx xs (L * x.2) (N * x.2 + x.1 * L)
theorem p18 : ∀ n : Nat, (1 : Int) ≤ 18 ^ n
  | 0 => by simp
  | n + 1 => by have := p18 n; rw [Int.pow_succ]; omega
theorem p18m {n : Nat} (h : n ≤ 6) : (18 : Int) ^ n ≤ 34012224 := by
  have : n = 0 ∨ n = 1 ∨ n = 2 ∨ n = 3 ∨ n = 4 ∨ n = 5 ∨ n = 6 := by omega
  rcases this with e | e | e | e | e | e | e <;> subst e <;> decide
theorem tot_loop {s0 : Sl} : ∀ (xs : List (Int × Int)) (t0 t1 M L N : Int) (s2 : Sl), Q M t0 t1 → t0 * L = N * t1 → (∀ x ∈ xs, Q 9 x.1 x.2) → M * 18 ^ xs.length < 1073741824 →
    ∃ u0 u1 M' s3, forD (bName 2) (thenS (callM F_plus (consM (varM 1) (consM (varM 2) (pureM [])))) fun d δ => some (.nx (δ.set 1 (.val d)))) (xs.map fp) [s0, .val (fr t0 t1), s2] = some (.nx [s0, .val (fr u0 u1), s3]) ∧ Q M' u0 u1 ∧ M' < 1073741824 ∧ u0 * Lx xs L = Nx xs L N * u1
  | [], t0, t1, M, L, N, s2, h, e, _, hm => ⟨t0, t1, M, s2, rfl, h, by simpa using hm, e⟩
  | x :: xs, t0, t1, M, L, N, s2, h, e, hx, hm => by
    have hM : 0 < M := by obtain ⟨a, b, _⟩ := h; omega
    have pw : (1 : Int) ≤ 18 ^ xs.length := p18 _
    have hm' : 2 * (M * 9) * 18 ^ xs.length < 1073741824 := by
      rw [List.length_cons, Int.pow_succ] at hm
      grind
    have hm2 : 2 * (M * 9) < 1073741824 := by
      have := Int.mul_le_mul_of_nonneg_left pw (show 0 ≤ 2 * (M * 9) by omega)
      omega
    obtain ⟨p, q, ep, hq, k⟩ := e_plus h (hx x (by simp)) hm2
    have hh := h
    obtain ⟨t_1, _⟩ := hh
    obtain ⟨u0, u1, M', s3, r1, r2, r3, r4⟩ := tot_loop xs p q (2 * (M * 9)) (L * x.2) (N * x.2 + x.1 * L) (.val (fp x)) hq (by
      have : p * (L * x.2) * t1 = (N * x.2 + x.1 * L) * q * t1 := by grind
      exact Int.eq_of_mul_eq_mul_right (by omega) this) (fun y hy => hx y (by simp [hy])) hm'
    refine ⟨u0, u1, M', s3, ?_, r2, r3, r4⟩
    rw [List.map_cons, forD]
    show (match thenS (callM F_plus (consM (varM 1) (consM (varM 2) (pureM [])))) (fun d δ => some (Out.nx (δ.set 1 (.val d)))) [s0, .val (fr t0 t1), .val (fp x)] with | some (.nx δ2) => _ | some (.ct δ2) => _ | some (.bk δ2) => _ | o => o) = _
    rw [thenS_ok (call_of (cons_of rfl (one_of rfl)) ep)]
    exact r1
theorem e_total {xs : List (Int × Int)} (hx : ∀ x ∈ xs, Q 9 x.1 x.2) (hl : xs.length ≤ 6) : ∃ u0 u1 M', F_total [.lst (xs.map fp)] = some (.ret (fr u0 u1)) ∧ Q M' u0 u1 ∧ M' < 1073741824 ∧ u0 * Lx xs 1 = Nx xs 1 0 * u1 := by
  have pw := p18m hl
  obtain ⟨u0, u1, M', s3, r1, r2, r3, r4⟩ := tot_loop (s0 := .val (.lst (xs.map fp))) xs 0 1 1 1 0 .un ⟨by decide, by decide, by decide, by decide, by decide⟩ rfl hx (by rw [Int.one_mul]; omega)
  refine ⟨u0, u1, M', ?_, r2, r3, r4⟩
  show outRes (b_total [.val (.lst (xs.map fp)), .un, .un]) = _
  unfold b_total
  rw [rt_seq (thenS_ok rfl) (rt_seq (thenS_ok (show seqM (varM 0) _ = _ from rfl) |>.trans r1) (thenS_ok rfl))]
  rfl

abbrev dd : Int × Int := (0, 1)
def lt2 (x y : Int × Int) : Bool := less x.1 x.2 y.1 y.2
theorem lt2_as {x y : Int × Int} (h : lt2 x y = true) : lt2 y x = false := by
  unfold lt2 less at *
  simp only [decide_eq_true_eq, decide_eq_false_iff_not] at *
  omega
abbrev Q9 (x : Int × Int) : Prop := Q 9 x.1 x.2
theorem e_lt2 {x y : Int × Int} (hx : Q9 x) (hy : Q9 y) : F_is_less [fp x, fp y] = some (.ret (.bl (lt2 x y))) := e_less hx hy (by decide)
abbrev wT : M Bool := andT (tst (bin2 gtD (varM 3) (pureM (.int 0)))) (tst (callM F_is_less (consM (varM 2) (consM (ixO 1 (bin2 subD (varM 3) (pureM (.int 1)))) (pureM [])))))
abbrev wB : Fo := (thenS (bindM (varM 3) fun a => bindM (pureM (.int 1)) fun b => liftO (int2 (fun i j => .int (i - j)) a b)) fun d δ => some (.nx (δ.set 3 (.val d))))
theorem wh {s0 : Sl} {ys : List (Int × Int)} {x : Int × Int} (hx : Q9 x) (hy : ∀ y ∈ ys, Q9 y) : ∀ (p n : Nat), p < n → p ≤ ys.length →
    ∃ k, k ≤ p ∧ (∀ i, k ≤ i → i < p → lt2 x (ys.getD i dd) = true) ∧ (0 < k → lt2 x (ys.getD (k - 1) dd) = false) ∧ whileF wT wB n [s0, .own (ys.map fp), .val (fp x), .val (.int p)] = some (.nx [s0, .own (ys.map fp), .val (fp x), .val (.int k)])
  | 0, n + 1, _, _ => by
    refine ⟨0, Nat.le_refl _, fun i _ h => absurd h (Nat.not_lt_zero _), fun h => absurd h (Nat.lt_irrefl _), ?_⟩
    have : wT [s0, .own (ys.map fp), .val (fp x), .val (.int (0 : Nat))] = some (.ok false _) := and_no1 (tst_of (b := false) rfl)
    rw [whileF]
    dsimp only
    rw [this]
  | p + 1, n + 1, hn, hl => by
    have hp : p < ys.length := by omega
    have g1 : tst (bin2 gtD (varM 3) (pureM (.int 0))) [s0, .own (ys.map fp), .val (fp x), .val (.int (p + 1 : Nat))] = some (.ok true [s0, .own (ys.map fp), .val (fp x), .val (.int (p + 1 : Nat))]) := by
      refine tst_of (bin2_of rfl rfl ?_)
      show some (D.bl (decide (0 < ((p + 1 : Nat) : Int)))) = _
      rw [decide_eq_true (by omega)]
    have hm : ys.getD p dd ∈ ys := by rw [List.getD_eq_getElem?_getD, List.getElem?_eq_getElem hp]; exact List.getElem_mem hp
    have g2 : ixO 1 (bin2 subD (varM 3) (pureM (.int 1))) [s0, .own (ys.map fp), .val (fp x), .val (.int (p + 1 : Nat))] = some (.ok (fp (ys.getD p dd)) [s0, .own (ys.map fp), .val (fp x), .val (.int (p + 1 : Nat))]) := by
      have e : bin2 subD (varM 3) (pureM (.int 1)) [s0, .own (ys.map fp), .val (fp x), .val (.int (p + 1 : Nat))] = some (.ok (.int (p : Nat)) [s0, .own (ys.map fp), .val (fp x), .val (.int (p + 1 : Nat))]) := by
        refine bin2_of rfl rfl ?_
        show some (D.int (((p + 1 : Nat) : Int) - 1)) = _
        rw [show ((p + 1 : Nat) : Int) - 1 = (p : Nat) by omega]
      unfold ixO
      show FL.bindM _ _ _ = _
      rw [bindM_ok e]
      show (match L2.atI (ys.map fp) (p : Int) with | some d => _ | none => _) = _
      rw [L2.atI_nat (v := fp (ys.getD p dd)) (by rw [List.getElem?_map, List.getElem?_eq_getElem hp, List.getD_eq_getElem?_getD, List.getElem?_eq_getElem hp]; rfl)]
    have g3 : wT [s0, .own (ys.map fp), .val (fp x), .val (.int (p + 1 : Nat))] = some (.ok (lt2 x (ys.getD p dd)) [s0, .own (ys.map fp), .val (fp x), .val (.int (p + 1 : Nat))]) :=
      and_2 g1 (tst_of (call_of (cons_of rfl (one_of g2)) (e_lt2 hx (hy _ hm))))
    cases hc : lt2 x (ys.getD p dd) with
    | false =>
      rw [hc] at g3
      refine ⟨p + 1, Nat.le_refl _, fun i h1 h2 => by omega, fun _ => hc, ?_⟩
      rw [whileF]
      dsimp only
      rw [g3]
    | true =>
      rw [hc] at g3
      obtain ⟨k, k1, k2, k3, k4⟩ := wh hx hy p n (by omega) (by omega)
      refine ⟨k, by omega, fun i h1 h2 => ?_, k3, ?_⟩
      · by_cases e : i = p
        · rw [e]; exact hc
        · exact k2 i h1 (by omega)
      · rw [whileF]
        dsimp only
        rw [g3]
        dsimp only
        have e : wB [s0, .own (ys.map fp), .val (fp x), .val (.int (p + 1 : Nat))] = some (.nx [s0, .own (ys.map fp), .val (fp x), .val (.int (p : Nat))]) := by
          show some (Out.nx [s0, .own (ys.map fp), .val (fp x), .val (.int (((p + 1 : Nat) : Int) - 1))]) = _
          rw [show ((p + 1 : Nat) : Int) - 1 = (p : Nat) by omega]
        rw [e]
        exact k4
def adj (ys : List (Int × Int)) : Prop := ∀ i, i + 1 < ys.length → lt2 (ys.getD (i + 1) dd) (ys.getD i dd) = false
theorem ins_get {ys : List (Int × Int)} {k : Nat} {x : Int × Int} (hk : k ≤ ys.length) (i : Nat) : (ys.take k ++ [x] ++ ys.drop k).getD i dd = if i < k then ys.getD i dd else if i = k then x else ys.getD (i - 1) dd := by
  simp only [List.getD_eq_getElem?_getD]
  have l1 : (ys.take k).length = k := by rw [List.length_take]; omega
  by_cases h1 : i < k
  · rw [if_pos h1, List.append_assoc, List.getElem?_append_left (by omega), List.getElem?_take_of_lt h1]
  · rw [if_neg h1, List.append_assoc, List.getElem?_append_right (by omega), l1]
    by_cases h2 : i = k
    · subst h2; simp
    · rw [if_neg h2, List.singleton_append]
      obtain ⟨j, rfl⟩ : ∃ j, i = k + 1 + j := ⟨i - k - 1, by omega⟩
      rw [show k + 1 + j - k = j + 1 by omega, List.getElem?_cons_succ, List.getElem?_drop, show k + 1 + j - 1 = k + j by omega]
theorem adj_ins {ys : List (Int × Int)} {k : Nat} {x : Int × Int} (h : adj ys) (hk : k ≤ ys.length) (h1 : 0 < k → lt2 x (ys.getD (k - 1) dd) = false) (h2 : k < ys.length → lt2 x (ys.getD k dd) = true) : adj (ys.take k ++ [x] ++ ys.drop k) := by
  intro i hi
  have len : (ys.take k ++ [x] ++ ys.drop k).length = ys.length + 1 := by simp; omega
  rw [len] at hi
  rw [ins_get hk, ins_get hk]
  by_cases a : i + 1 < k
  · rw [if_pos a, if_pos (by omega)]; exact h i (by omega)
  · rw [if_neg a]
    by_cases b : i + 1 = k
    · rw [if_pos b, if_pos (by omega), show i = k - 1 by omega]; exact h1 (by omega)
    · rw [if_neg b, if_neg (by omega)]
      by_cases c : i = k
      · rw [if_pos c, show i + 1 - 1 = k by omega]; exact lt2_as (h2 (by omega))
      · rw [if_neg c]
        have := h (i - 1) (by omega)
        rwa [show i - 1 + 1 = i by omega] at this

theorem in_loop {s0 : Sl} : ∀ (xs ys : List (Int × Int)) (s2 s3 : Sl), (∀ x ∈ xs, Q9 x) → (∀ y ∈ ys, Q9 y) → adj ys → xs.length + ys.length < 900 →
    ∃ zs s2' s3', forD (bName 2) (seqS (thenS (lenO 1) fun d δ => some (.nx (δ.set 3 (.val d)))) (seqS (whileF wT wB 1000) (insS 1 (varM 3) (callB tupleD (consM (varM 2) (pureM [])))))) (xs.map fp) [s0, .own (ys.map fp), s2, s3] = some (.nx [s0, .own (zs.map fp), s2', s3']) ∧ zs.Perm (xs ++ ys) ∧ adj zs
  | [], ys, s2, s3, _, _, h, _ => ⟨ys, s2, s3, rfl, List.Perm.refl _, h⟩
  | x :: xs, ys, s2, s3, hx, hy, h, hl => by
    rw [List.length_cons] at hl
    obtain ⟨k, k1, k2, k3, k4⟩ := wh (s0 := s0) (hx x (by simp)) hy ys.length 1000 (by omega) (Nat.le_refl _)
    have a := adj_ins (x := x) h k1 k3 (fun z => k2 k (Nat.le_refl _) z)
    have pm : (ys.take k ++ [x] ++ ys.drop k).Perm (x :: ys) := by
      have := (List.perm_append_comm (l₁ := ys.take k) (l₂ := [x])).append_right (ys.drop k)
      simpa using this
    obtain ⟨zs, s2', s3', r1, r2, r3⟩ := in_loop xs (ys.take k ++ [x] ++ ys.drop k) (.val (fp x)) (.val (.int k)) (fun y hy' => hx y (by simp [hy'])) (fun y hy' => by
      rcases List.mem_cons.mp (pm.mem_iff.mp hy') with e | e
      · rw [e]; exact hx x (by simp)
      · exact hy y e) a (by have := pm.length_eq; simp only [List.length_cons] at this; omega)
    refine ⟨zs, s2', s3', ?_, ?_, r3⟩
    · rw [List.map_cons, forD]
      show (match seqS _ _ [s0, .own (ys.map fp), .val (fp x), s3] with | some (.nx δ2) => _ | some (.ct δ2) => _ | some (.bk δ2) => _ | o => o) = _
      have e1 : thenS (lenO 1) (fun d δ => some (Out.nx (δ.set 3 (.val d)))) [s0, .own (ys.map fp), .val (fp x), s3] = some (.nx [s0, .own (ys.map fp), .val (fp x), .val (.int ys.length)]) := by
        have l0 : lenO 1 [s0, .own (ys.map fp), .val (fp x), s3] = some (.ok (.int ((ys.map fp).length : Nat)) [s0, .own (ys.map fp), .val (fp x), s3]) := rfl
        rw [thenS_ok l0, List.length_map]
        rfl
      have e2 : insS 1 (varM 3) (callB tupleD (consM (varM 2) (pureM []))) [s0, .own (ys.map fp), .val (fp x), .val (.int k)] = some (.nx [s0, .own ((ys.take k ++ [x] ++ ys.drop k).map fp), .val (fp x), .val (.int k)]) := by
        have hc : 0 ≤ (k : Int) ∧ (k : Int) < 1000000 ∧ (ys.map fp).length < 1000000 := ⟨by omega, by omega, by rw [List.length_map]; omega⟩
        have o1 : ownAt [s0, .own (ys.map fp), .val (fp x), .val (.int (k : Int))] 1 = some (ys.map fp) := rfl
        have v1 : varM 3 [s0, .own (ys.map fp), .val (fp x), .val (.int (k : Int))] = some (.ok (.int k) [s0, .own (ys.map fp), .val (fp x), .val (.int (k : Int))]) := rfl
        have v2 : callB tupleD (consM (varM 2) (pureM [])) [s0, .own (ys.map fp), .val (fp x), .val (.int (k : Int))] = some (.ok (fp x) [s0, .own (ys.map fp), .val (fp x), .val (.int (k : Int))]) := rfl
        unfold insS
        rw [o1]
        dsimp only
        rw [thenS_ok v1, thenS_ok v2, o1]
        dsimp only
        rw [if_pos hc]
        simp only [List.map_append, List.map_take, List.map_drop, List.map_cons, List.map_nil, Int.toNat_natCast]
        rfl
      rw [seqS_nx e1, seqS_nx k4, e2]
      exact r1
    · refine r2.trans ?_
      exact ((List.Perm.append_left xs pm).trans (by simpa using List.perm_middle))
theorem e_in_order {xs : List (Int × Int)} (hx : ∀ x ∈ xs, Q9 x) (hl : xs.length ≤ 6) : ∃ zs, F_in_order [.lst (xs.map fp)] = some (.ret (.tup (zs.map fp))) ∧ zs.Perm xs ∧ adj zs := by
  obtain ⟨zs, s2, s3, r1, r2, r3⟩ := in_loop (s0 := .val (.lst (xs.map fp))) xs [] .un .un hx (by simp) (fun i h => absurd h (by simp)) (by simp; omega)
  refine ⟨zs, ?_, by simpa using r2, r3⟩
  show outRes (b_in_order [.val (.lst (xs.map fp)), .un, .un, .un]) = _
  unfold b_in_order
  have e1 : thenS (pureM []) (fun ds δ => if ds.length ≤ 1000000 then some (Out.nx (δ.set 1 (.own ds))) else none) [.val (.lst (xs.map fp)), .un, .un, .un] = some (.nx [.val (.lst (xs.map fp)), .own [], .un, .un]) := rfl
  have e2 : thenS (seqM (varM 0)) (fun ds => forD (bName 2) (seqS (thenS (lenO 1) fun d δ => some (.nx (δ.set 3 (.val d)))) (seqS (whileF wT wB 1000) (insS 1 (varM 3) (callB tupleD (consM (varM 2) (pureM [])))))) ds) [.val (.lst (xs.map fp)), .own [], .un, .un] = some (.nx [.val (.lst (xs.map fp)), .own (zs.map fp), s2, s3]) := r1
  rw [seqS_nx e1, seqS_nx e2]
  rfl
/-! sorted -/
def le2 (p q : Int × Int) : Bool := decide (p.1 < q.1 ∨ (p.1 = q.1 ∧ p.2 ≤ q.2))
theorem sortL_fp (xs : List (Int × Int)) : sortL (xs.map fp) = (xs.mergeSort le2).map fp := by
  unfold sortL
  refine (List.map_mergeSort (f := fp) (r := le2) (s := PySem.W.dataLe false pyOf) fun a _ b _ => ?_).symm
  have := congrFun (congrFun (PySem.W.dataLe_ii (β := Int × Int) (fun b => b.1) (fun b => b.2)) a) b
  exact this.symm
theorem sort_perm {xs ys : List (Int × Int)} (h : xs.Perm ys) : xs.mergeSort le2 = ys.mergeSort le2 := by
  have tr : ∀ a b c : Int × Int, le2 a b = true → le2 b c = true → le2 a c = true := fun a b c h1 h2 => by
    unfold le2 at *; simp only [decide_eq_true_eq] at *; omega
  have to : ∀ a b : Int × Int, (le2 a b || le2 b a) = true := fun a b => by
    unfold le2; simp only [Bool.or_eq_true, decide_eq_true_eq]; omega
  refine List.Perm.eq_of_pairwise (le := fun a b => le2 a b = true) (fun a b _ _ h1 h2 => ?_) (List.pairwise_mergeSort tr to xs) (List.pairwise_mergeSort tr to ys) (((List.mergeSort_perm xs le2).trans h).trans (List.mergeSort_perm ys le2).symm)
  unfold le2 at *; simp only [decide_eq_true_eq] at *
  exact Prod.ext (by omega) (by omega)
theorem okS {xs : List (Int × Int)} (hl : xs.length ≤ 1000) : okSort (xs.map fp) = true := by
  unfold okSort
  simp only [Bool.and_eq_true, decide_eq_true_eq, List.all_eq_true, List.length_map, List.mem_map, forall_exists_index, and_imp, forall_apply_eq_imp_iff₂, Bool.or_eq_true]
  refine ⟨⟨⟨by omega, fun x _ => ⟨rfl, ?_⟩⟩, fun x _ y _ => ?_⟩, .inl fun x _ => rfl⟩
  · show (PyData.tuple [.int x.1, .int x.2]).depth ≤ 60
    simp [PyData.depth, PyData.depthAll]
  · show PySem.W.alike (.tuple [.int x.1, .int x.2]) (.tuple [.int y.1, .int y.2]) = true
    simp [PySem.W.alike, PySem.W.alikeAll]
theorem toPyL_fp : ∀ xs : List (Int × Int), toPyL (xs.map fp) = some (xs.map fun x => PyData.tuple [.int x.1, .int x.2])
  | [] => rfl
  | x :: xs => by rw [List.map_cons, toPyL, toPyL_fp xs]; rfl
theorem cl_fp : ∀ xs : List (Int × Int), PyData.canLayAll0 (xs.map fun x => PyData.tuple [.int x.1, .int x.2]) = true
  | [] => rfl
  | x :: xs => by rw [List.map_cons, PyData.canLayAll0, cl_fp xs]; rfl
theorem dp_fp : ∀ xs : List (Int × Int), PyData.depthAll (xs.map fun x => PyData.tuple [.int x.1, .int x.2]) ≤ 2
  | [] => by simp [PyData.depthAll]
  | x :: xs => by
    have := dp_fp xs
    simp only [List.map_cons, PyData.depthAll, PyData.depth]
    omega
theorem ev_fp : ∀ xs : List (Int × Int), PyData.eqvAll (xs.map fun x => PyData.tuple [.int x.1, .int x.2]) (xs.map fun x => PyData.tuple [.int x.1, .int x.2]) = true
  | [] => rfl
  | x :: xs => by
    rw [List.map_cons, PyData.eqvAll, ev_fp xs]
    show ((x.1 == x.1 && (x.2 == x.2 && true)) && true) = true
    simp
theorem eqB_fps (xs : List (Int × Int)) : eqB (.lst (xs.map fp)) (.lst (xs.map fp)) = some true := by
  have sh : SeqAt.shaped (.list (xs.map fun x => PyData.tuple [.int x.1, .int x.2])) = true := by
    unfold SeqAt.shaped PyData.canLay0 PyData.depth
    rw [cl_fp]
    have := dp_fp xs
    simp
    omega
  unfold eqB toPy
  rw [toPyL_fp]
  simp only [Option.map_some]
  rw [sh]
  show some (PyData.eqvAll _ _) = _
  rw [ev_fp]
theorem eqB_fr (p q p' q' : Int) : eqB (fr p q) (fr p' q') = some (decide (p = p' ∧ q = q')) := by
  rw [show eqB (fr p q) (fr p' q') = _ from eqB_tups [p, q] [p', q']]
  congr 1
  by_cases h1 : p = p' <;> by_cases h2 : q = q' <;> simp [h1, h2]
theorem e_len1 {t l : Int} (N : Int) (hl : l ≠ 0) (h1 : -N ≤ l) (h2 : l ≤ N) (h3 : -N ≤ t) (h4 : t ≤ N) (hN : N < 1073741824) : ∃ p q, p * l = t * q ∧ 0 < q ∧ Q N p q ∧ F_check_length [fr t l] = if p ≤ 0 then some (.ex 2) else some (.ret (fr p q)) := by
  obtain ⟨p, q, e, hq, k⟩ := e_part N t l hl h1 h2 h3 h4 hN
  refine ⟨p, q, k, hq.1, hq, ?_⟩
  show outRes (b_check_length [.val (fr t l), .un, .un]) = _
  unfold b_check_length
  have e1 : thenS (callM F_part (consM (bin2 ixD (varM 0) (pureM (.int 0))) (consM (bin2 ixD (varM 0) (pureM (.int 1))) (pureM [])))) (fun d δ => (bTup (bCons (bName 1) (bCons (bName 2) (bNil))) d δ).map .nx) [.val (fr t l), .un, .un] = some (.nx [.val (fr t l), .val (.int p), .val (.int q)]) := by
    rw [thenS_ok (call_of (cons_of (show bin2 ixD (varM 0) (pureM (.int 0)) [.val (fr t l), .un, .un] = some (.ok (.int t) [.val (fr t l), .un, .un]) from rfl) (one_of (show bin2 ixD (varM 0) (pureM (.int 1)) [.val (fr t l), .un, .un] = some (.ok (.int l) [.val (fr t l), .un, .un]) from rfl))) e)]
    rfl
  rw [seqS_nx e1]
  have e2 : tst (bin2 leD (varM 1) (pureM (.int 0))) [.val (fr t l), .val (.int p), .val (.int q)] = some (.ok (decide (p ≤ 0)) [.val (fr t l), .val (.int p), .val (.int q)]) := rfl
  unfold seqS
  rw [thenS_ok e2]
  by_cases h : p ≤ 0
  · rw [decide_eq_true h, if_pos h]; rfl
  · rw [decide_eq_false h, if_neg h]; rfl

theorem mul_ok {i j : Int} (h : -(18446744073709551616) < i ∧ i < 18446744073709551616) : mulD (.int i) (.int j) = some (.int (i * j)) := if_pos (cm h)
theorem mul_ok' {i j : Int} (h : -(18446744073709551616) < j ∧ j < 18446744073709551616) : mulD (.int i) (.int j) = some (.int (i * j)) := if_pos (by unfold CMul; rw [show (2 : Int) ^ 64 = 18446744073709551616 by decide]; exact .inr h)
theorem F_by10 : F_by [fr 1 1, fr 0 1] = some (.ex 2) := by
  show outRes (b_by [.val (fr 1 1), .val (fr 0 1)]) = _
  unfold b_by
  have e1 : bin2 mulD (bin2 ixD (varM 0) (pureM (.int 0))) (bin2 ixD (varM 1) (pureM (.int 1))) [.val (fr 1 1), .val (fr 0 1)] = some (.ok (.int 1) [.val (fr 1 1), .val (fr 0 1)]) := bin2_of (x := .int 1) (y := .int 1) rfl rfl (mul_ok (i := 1) (j := 1) (by decide))
  have e2 : bin2 mulD (bin2 ixD (varM 0) (pureM (.int 1))) (bin2 ixD (varM 1) (pureM (.int 0))) [.val (fr 1 1), .val (fr 0 1)] = some (.ok (.int 0) [.val (fr 1 1), .val (fr 0 1)]) := bin2_of (x := .int 1) (y := .int 0) rfl rfl (mul_ok (i := 1) (j := 0) (by decide))
  have e3 : callM F_part (consM (bin2 mulD (bin2 ixD (varM 0) (pureM (.int 0))) (bin2 ixD (varM 1) (pureM (.int 1)))) (consM (bin2 mulD (bin2 ixD (varM 0) (pureM (.int 1))) (bin2 ixD (varM 1) (pureM (.int 0)))) (pureM []))) [.val (fr 1 1), .val (fr 0 1)] = some (.ex 2) := by
    unfold callM
    rw [bindM_ok (cons_of e1 (one_of e2))]
    rfl
  unfold thenS
  rw [e3]
  rfl
theorem chk0 : F_check_length [fr 0 1] = some (.ex 2) := by
  obtain ⟨p, q, k, q0, _, e⟩ := e_len1 (t := 0) (l := 1) 9 (by decide) (by decide) (by decide) (by decide) (by decide) (by decide)
  rw [e, if_pos (by omega)]
theorem chk1 : F_check_length [fr (0 - 1) 2] = some (.ex 2) := by
  obtain ⟨p, q, k, q0, _, e⟩ := e_len1 (t := 0 - 1) (l := 2) 9 (by decide) (by decide) (by decide) (by decide) (by decide) (by decide)
  rw [e, if_pos (by omega)]
theorem chk2 : F_check_length [fr 2 4] = some (.ret (fr 1 2)) := by
  obtain ⟨p, q, k, q0, ⟨h1, h2, h3, h4, h5⟩, e⟩ := e_len1 (t := 2) (l := 4) 9 (by decide) (by decide) (by decide) (by decide) (by decide) (by decide)
  obtain ⟨e1, e2⟩ := uniq (p' := 1) (q' := 2) h1 (by decide) h5 (by decide) (by omega)
  rw [e, if_neg (by omega), e1, e2]
theorem part07 : F_part [.int 0, .int 7] = some (.ret (fr 0 1)) := by
  obtain ⟨p, q, e, ⟨h1, h2, h3, h4, h5⟩, k⟩ := e_part 9 0 7 (by decide) (by decide) (by decide) (by decide) (by decide) (by decide)
  obtain ⟨e1, e2⟩ := uniq (p' := 0) (q' := 1) h1 (by decide) h5 (by decide) (by omega)
  rw [e, e1, e2]
theorem told_time {m : M D} {δ : De} (h : m (hideOwn δ) = some (.ex 2)) : toldM NL m δ = some (.ok (.str "time") δ) := told_ex h rfl
theorem toldK_of {lt : List (Lam × M D)} {f m : M D} {L : Lam} {δ : De} {j : Nat} {d : D} (hf : f δ = some (.ok (.fn L) δ)) (hj : L.ix = j) (hl : lt[j]? = some (L, m)) (h : toldM NL m δ = some (.ok d δ)) : toldK NL lt f δ = some (.ok d δ) := by
  unfold toldK
  rw [bindM_ok hf]
  dsimp only
  rw [hj, hl]
  dsimp only
  rw [if_pos rfl]
  exact h
theorem timeeq : eqB (.str "time") (.str "time") = some true := by rw [eqB_str (by decide +kernel) (by decide +kernel)]; exact congrArg some (by decide +kernel)
abbrev Wr : List D := [.tup [.fn lam_3, .str "time"], .tup [.fn lam_2, .str "time"], .tup [.fn lam_1, .str "time"], .tup [.fn lam_0, .str "time"]]
theorem tell (j : Nat) (L : Lam) (m : M D) (δ : De) (hj : L.ix = j) (hl : LT[j]? = some (L, m)) (h : ∀ δ, m δ = some (.ex 2)) (h14 : δ[14]? = some (.val (.tup [.fn L, .str "time"]))) :
    tst (bin2 neD (toldK NL LT (bin2 ixD (varM 14) (pureM (.int 0)))) (bin2 ixD (varM 14) (pureM (.int 1)))) δ = some (.ok false δ) :=
  ne_no (toldK_of (bin2_of (var_of h14) rfl rfl) hj hl (told_time (h _))) (bin2_of (var_of h14) rfl rfl) timeeq
theorem rest_ok (δ : De) (hl : δ.length = 15) (h14 : ownAt δ 14 = none) : b_rest δ = some (.rt (.bl true)) := by
  unfold b_rest
  have e1 : thenS (lstM (consM (tupM (consM (pureM (.fn lam_3)) (consM (pureM (.str "time")) (pureM [])))) (consM (tupM (consM (pureM (.fn lam_2)) (consM (pureM (.str "time")) (pureM [])))) (consM (tupM (consM (pureM (.fn lam_1)) (consM (pureM (.str "time")) (pureM [])))) (consM (tupM (consM (pureM (.fn lam_0)) (consM (pureM (.str "time")) (pureM [])))) (pureM [])))))) (fun d δ => some (Out.nx (δ.set 2 (.val d)))) δ = some (.nx (δ.set 2 (.val (.lst Wr)))) := rfl
  rw [seqS_nx e1]
  have g2 : (δ.set 2 (.val (.lst Wr)))[2]? = some (.val (.lst Wr)) := List.getElem?_set_self (by omega)
  have o2 : ownAt (δ.set 2 (.val (.lst Wr))) 14 = none := by unfold ownAt at h14 ⊢; rw [List.getElem?_set_ne (by decide)]; exact h14
  have l2 : (δ.set 2 (.val (.lst Wr))).length = 15 := by simp [hl]
  generalize δ.set 2 (.val (.lst Wr)) = δ2 at g2 o2 l2 ⊢
  have f1 : lcM [14] (bName 14) (tst (bin2 neD (toldK NL LT (bin2 ixD (varM 14) (pureM (.int 0)))) (bin2 ixD (varM 14) (pureM (.int 1))))) (varM 14) (seqM (varM 2)) δ2 = some (.ok (.lst []) δ2) := by
    refine lcM_filter (p := fun _ => false) (g := id) (ds := Wr) (δ1 := δ2) ?_ (by decide) (by unfold noOwn; simp [o2]) fun d hd => ?_
    · unfold seqM; rw [bindM_ok (var_of g2)]; rfl
    · obtain ⟨δ3, b1, rfl, b2, b3⟩ := bind1 (v := 14) (d := d) (δ := δ2)
      refine ⟨_, b1, b2, b3, ?_, fun h => by cases h⟩
      have v14 : (δ2.set 14 (.val d))[14]? = some (.val d) := List.getElem?_set_self (by omega)
      simp only [Wr, List.mem_cons, List.not_mem_nil, or_false] at hd
      rcases hd with e | e | e | e <;> subst e
      · exact tell 3 lam_3 _ _ rfl rfl (fun _ => rfl) v14
      · refine tell 2 lam_2 _ _ rfl rfl (fun δ => ?_) v14
        unfold callM
        rw [bindM_ok (show consM _ _ δ = some (.ok [fr 1 1, fr 0 1] δ) from rfl), F_by10]
        rfl
      · refine tell 1 lam_1 _ _ rfl rfl (fun δ => ?_) v14
        unfold callM
        rw [bindM_ok (show consM _ _ δ = some (.ok [fr 0 1] δ) from rfl), chk0]
        rfl
      · refine tell 0 lam_0 _ _ rfl rfl (fun δ => ?_) v14
        unfold callM
        rw [bindM_ok (show consM _ _ δ = some (.ok [fr (0 - 1) 2] δ) from rfl), chk1]
        rfl
  have f2 : bin2 eqD (lcM [14] (bName 14) (tst (bin2 neD (toldK NL LT (bin2 ixD (varM 14) (pureM (.int 0)))) (bin2 ixD (varM 14) (pureM (.int 1))))) (varM 14) (seqM (varM 2))) (lstM (pureM [])) δ2 = some (.ok (.bl true) δ2) := bin2_of f1 (lst_of rfl (by decide)) (by unfold eqD; rw [eqB_nil]; rfl)
  have f3 : bin2 eqD (callM F_check_length (consM (tupM (consM (pureM (.int 2)) (consM (pureM (.int 4)) (pureM [])))) (pureM []))) (tupM (consM (pureM (.int 1)) (consM (pureM (.int 2)) (pureM [])))) δ2 = some (.ok (.bl true) δ2) :=
    bin2_of (call_of (ds := [fr 2 4]) rfl chk2) rfl (by unfold eqD; rw [show eqB (fr 1 2) (.tup [.int 1, .int 2]) = _ from eqB_fr 1 2 1 2]; rfl)
  have f4 : bin2 eqD (callM F_part (consM (pureM (.int 0)) (consM (pureM (.int 7)) (pureM [])))) (tupM (consM (pureM (.int 0)) (consM (pureM (.int 1)) (pureM [])))) δ2 = some (.ok (.bl true) δ2) :=
    bin2_of (call_of (ds := [.int 0, .int 7]) rfl part07) rfl (by unfold eqD; rw [show eqB (fr 0 1) (.tup [.int 0, .int 1]) = _ from eqB_fr 0 1 0 1]; rfl)
  rw [thenS_ok (andM_of f2 (andM_of f3 f4))]
  rfl
theorem e_dice (n : Int) : ∃ x y z : Int, F__law_dice [.int n] = some (.ret (.lst [.int x, .int y, .int z])) := by
  by_cases h1 : -10 < n <;> by_cases h2 : n < 10
  · exact ⟨absI n, 0, 2, by simp [F__law_dice, b__law_dice, defF, startD, seqS, thenS, FL.bindM, pureM, varM, liftO, FL.consM, callM, resM, callB, bin2, un1, tst, toB, FL.andM, FL.orM, FL.notM, andT, orT, iteM, chainM, tupM, lstM, intM, subD, mulD, modD, fdivD, addD, ltD, leD, gtD, geD, eqD_int, neD_int, eqD_bl, neD_bl, negD, int2, int2C, absD, lenD, FL.intD, outRes, nxS, bName, bTup, bCons, bNil, seqOf, h1, h2]⟩
  all_goals refine ⟨n, 1 + n % 1009, if 10 ^ 18 ≤ n then 1 else 0, ?_⟩
  all_goals by_cases h3 : (10 : Int) ^ 18 ≤ n <;> simp [F__law_dice, b__law_dice, defF, startD, seqS, thenS, FL.bindM, pureM, varM, liftO, FL.consM, callM, resM, callB, bin2, un1, tst, toB, FL.andM, FL.orM, FL.notM, andT, orT, iteM, chainM, tupM, lstM, intM, subD, mulD, modD, fdivD, addD, ltD, leD, gtD, geD, eqD_int, neD_int, eqD_bl, neD_bl, negD, int2, int2C, absD, lenD, FL.intD, outRes, nxS, bName, bTup, bCons, bNil, seqOf, h1, h2, powD, CPow] <;> split <;> simp_all
theorem finR (ns : List Int) : ∃ x y z, b_rounds [.un, .val (.int 1), .val (.lst ((ns.take 1).map D.int)), .un] = some (.rt (.lst [.lst [.int x, .int y, .int z]])) := by
  have key : ∀ n : Int, ∃ x y z, thenS (lcM [3] (bName 3) (pureM true) (callM F__law_dice (consM (varM 3) (pureM []))) (seqM (varM 2))) (fun d _ => some (.rt d)) [.un, .val (.int 1), .val (.lst [.int n]), .un] = some (.rt (.lst [.lst [.int x, .int y, .int z]])) := fun n => by
    obtain ⟨x, y, z, e⟩ := e_dice n
    refine ⟨x, y, z, ?_⟩
    rw [thenS_ok (lcM_map (g := fun _ => .lst [.int x, .int y, .int z]) (ds := [.int n]) (δ1 := [.un, .val (.int 1), .val (.lst [.int n]), .un]) rfl (by simp) rfl fun d hd => ?_)]
    · rfl
    · simp only [List.mem_singleton] at hd
      subst hd
      obtain ⟨δ1, e1, rfl, e2, e3⟩ := bind1 (v := 3) (d := .int n) (δ := [.un, .val (.int 1), .val (.lst [.int n]), .un])
      exact ⟨_, e1, e2, e3, call_of rfl e⟩
  cases ns with
  | nil =>
    obtain ⟨x, y, z, e⟩ := key 0
    exact ⟨x, y, z, e⟩
  | cons n r =>
    obtain ⟨x, y, z, e⟩ := key n
    refine ⟨x, y, z, ?_⟩
    show b_rounds [.un, .val (.int 1), .val (.lst [.int n]), .un] = _
    unfold b_rounds
    rw [rt_seq (if_no (eq_of (x := .lst [.int n]) (y := .lst []) (var_of rfl) (lst_of rfl (by decide)) (eqB_ints [n] []))) e]


/-! the parts thrown -/
def PB (x : Int × Int) : Prop := -9 ≤ x.1 ∧ x.1 ≤ 9 ∧ 1 ≤ x.2 ∧ x.2 ≤ 6
theorem pull {B : Int × Int → Prop} : ∀ {es : List D}, (∀ e ∈ es, ∃ p, e = fp p ∧ B p) → ∃ ps : List (Int × Int), es = ps.map fp ∧ ∀ p ∈ ps, B p
  | [], _ => ⟨[], rfl, by simp⟩
  | e :: es, h => by
    obtain ⟨p, rfl, hp⟩ := h e (by simp)
    obtain ⟨ps, rfl, hs⟩ := pull (es := es) fun x hx => h x (by simp [hx])
    exact ⟨p :: ps, rfl, fun q hq => by
      rcases List.mem_cons.mp hq with e | e
      · rw [e]; exact hp
      · exact hs q e⟩
theorem two_rolls (δ : De) (x y z : Int) (h : ownAt δ 1 = some [.int x, .int y, .int z]) : ∃ (d : D) (x' y' z' : Int), (∃ p, d = fp p ∧ PB p) ∧
    tupM (consM (bin2 subD (rollM 1 (pureM (.int 19))) (pureM (.int 9))) (consM (bin2 addD (pureM (.int 1)) (rollM 1 (pureM (.int 6)))) (pureM []))) δ = some (.ok d (δ.set 1 (.own [.int x', .int y', .int z']))) := by
  obtain ⟨r, x1, y1, z1, r0, r1, hr⟩ := roll1 (i := 1) (m := 19) ⟨by decide, by decide⟩ h
  have hl : 1 < δ.length := (List.getElem?_eq_some_iff.mp (ownAt_some h)).1
  have h2 : ownAt (δ.set 1 (.own [.int x1, .int y1, .int z1])) 1 = some [.int x1, .int y1, .int z1] := by unfold ownAt; rw [List.getElem?_set_self hl]
  obtain ⟨q, x2, y2, z2, q0, q1, hq⟩ := roll1 (i := 1) (m := 6) ⟨by decide, by decide⟩ h2
  rw [List.set_set] at hq
  refine ⟨fp (r - 9, 1 + q), x2, y2, z2, ⟨_, rfl, by show -9 ≤ r - 9; omega, by show r - 9 ≤ 9; omega, by show 1 ≤ 1 + q; omega, by show 1 + q ≤ 6; omega⟩, ?_⟩
  have a1 : bin2 subD (rollM 1 (pureM (.int 19))) (pureM (.int 9)) δ = some (.ok (.int (r - 9)) (δ.set 1 (.own [.int x1, .int y1, .int z1]))) := bin2_of hr rfl rfl
  have a2 : bin2 addD (pureM (.int 1)) (rollM 1 (pureM (.int 6))) (δ.set 1 (.own [.int x1, .int y1, .int z1])) = some (.ok (.int (1 + q)) (δ.set 1 (.own [.int x2, .int y2, .int z2]))) := bin2_of rfl hq rfl
  unfold tupM
  rw [bindM_ok (cons_of a1 (one_of a2))]
  rfl
open Classical in
noncomputable def red (p : Int × Int) : Int × Int := if h : ∃ r : Int × Int, F_part [.int p.1, .int p.2] = some (.ret (fp r)) then Classical.choose h else dd
theorem red_ok {p : Int × Int} (h : PB p) : F_part [.int p.1, .int p.2] = some (.ret (fp (red p))) ∧ Q9 (red p) ∧ (red p).1 * p.2 = p.1 * (red p).2 := by
  obtain ⟨h1, h2, h3, h4⟩ := h
  obtain ⟨a, b, e, hq, k⟩ := e_part 9 p.1 p.2 (by omega) (by omega) (by omega) h1 h2 (by decide)
  have hx : ∃ r : Int × Int, F_part [.int p.1, .int p.2] = some (.ret (fp r)) := ⟨(a, b), e⟩
  have hr : red p = Classical.choose hx := dif_pos hx
  have hs := Classical.choose_spec hx
  rw [← hr] at hs
  have e2 := hs.symm.trans e
  have e3 : red p = (a, b) := by
    have : fp (red p) = fr a b := by injection e2 with e2; injection e2
    injection this with this
    injection this with t1 t2
    injection t1 with t1
    injection t2 with t2 _
    injection t2 with t2
    exact Prod.ext t1 t2
  refine ⟨hs, ?_, ?_⟩
  · rw [e3]; exact hq
  · rw [e3]; exact k
theorem at_fp {xs : List (Int × Int)} {k : Nat} (h : k < xs.length) : ixD (.lst (xs.map fp)) (.int (k : Int)) = some (fp (xs.getD k dd)) := by
  show L2.atI _ _ = _
  refine L2.atI_nat ?_
  rw [List.getElem?_map, List.getElem?_eq_getElem h, List.getD_eq_getElem?_getD, List.getElem?_eq_getElem h]
  rfl
theorem at_fpt {xs : List (Int × Int)} {k : Nat} (h : k < xs.length) : ixD (.tup (xs.map fp)) (.int (k : Int)) = some (fp (xs.getD k dd)) := at_fp h
abbrev ST (s1 : Sl) (ps ss : List (Int × Int)) (s5 s6 s7 s8 s9 s10 s11 s12 s13 : Sl) : De := [.un, s1, .un, .val (.lst (ps.map fp)), .val (.lst (ss.map fp)), s5, s6, s7, s8, s9, s10, s11, s12, s13, .un]
theorem st1 (x y z : Int) : ∃ (ps : List (Int × Int)) (x' y' z' : Int), 2 ≤ ps.length ∧ ps.length ≤ 6 ∧ (∀ p ∈ ps, PB p) ∧
    lcM [5] (bName 5) (pureM true) (tupM (consM (bin2 subD (rollM 1 (pureM (.int 19))) (pureM (.int 9))) (consM (bin2 addD (pureM (.int 1)) (rollM 1 (pureM (.int 6)))) (pureM [])))) (itM rng1 (consM (bin2 addD (pureM (.int 2)) (rollM 1 (pureM (.int 5)))) (pureM []))) (lawD 15 1 x y z) =
      some (.ok (.lst (ps.map fp)) [.un, .own [.int x', .int y', .int z'], .un, .un, .un, .un, .un, .un, .un, .un, .un, .un, .un, .un, .un]) := by
  obtain ⟨r, x1, y1, z1, r0, r1, hr⟩ := roll1 (i := 1) (m := 5) (x := x) (y := y) (z := z) (δ := lawD 15 1 x y z) ⟨by decide, by decide⟩ rfl
  obtain ⟨n, rfl⟩ := Int.eq_ofNat_of_zero_le r0
  have hi : itM rng1 (consM (bin2 addD (pureM (.int 2)) (rollM 1 (pureM (.int 5)))) (pureM [])) (lawD 15 1 x y z) = some (.ok (rangeL 0 (2 + n)) ((lawD 15 1 x y z).set 1 (.own [.int x1, .int y1, .int z1]))) := by
    refine itM_of (one_of (bin2_of rfl hr rfl)) ?_
    show rng1 [.int (2 + (n : Int))] = _
    rw [show (2 : Int) + (n : Int) = ((2 + n : Nat) : Int) by omega]
    exact rng1_len (by omega)
  obtain ⟨es, x', y', z', h1, h2, h3⟩ := lcM_dice (i := 1) (v := 5) (x := x1) (y := y1) (z := z1) (by decide) two_rolls hi (by rw [rangeL_len]; omega) rfl rfl
  obtain ⟨ps, rfl, hp⟩ := pull h2
  rw [List.length_map, rangeL_len] at h1
  exact ⟨ps, x', y', z', by omega, by omega, hp, h3⟩
theorem st2 {s1 : Sl} {ps : List (Int × Int)} (hp : ∀ p ∈ ps, PB p) (hl : ps.length ≤ 6) (h1 : ∀ xs, s1 = .own xs → True) :
    lcM [12, 8] (bTup (bCons (bName 12) (bCons (bName 8) (bNil)))) (pureM true) (callM F_part (consM (varM 12) (consM (varM 8) (pureM [])))) (seqM (varM 3)) [.un, s1, .un, .val (.lst (ps.map fp)), .un, .un, .un, .un, .un, .un, .un, .un, .un, .un, .un] =
      some (.ok (.lst ((ps.map red).map fp)) [.un, s1, .un, .val (.lst (ps.map fp)), .un, .un, .un, .un, .un, .un, .un, .un, .un, .un, .un]) := by
  rw [lcM_map (g := fun d => match d with | .tup [.int t, .int l] => fp (red (t, l)) | _ => .non) (ds := ps.map fp) (δ1 := [.un, s1, .un, .val (.lst (ps.map fp)), .un, .un, .un, .un, .un, .un, .un, .un, .un, .un, .un]) rfl (by rw [List.length_map]; omega) rfl fun d hd => ?_]
  · rw [List.map_map, List.map_map]; rfl
  · obtain ⟨p, hpm, rfl⟩ := List.mem_map.mp hd
    obtain ⟨δ1, e1, rfl, e2, e3⟩ := bind2 (u := 12) (v := 8) (x := .int p.1) (y := .int p.2) (δ := [.un, s1, .un, .val (.lst (ps.map fp)), .un, .un, .un, .un, .un, .un, .un, .un, .un, .un, .un]) (by decide)
    exact ⟨_, e1, e2, e3, call_of rfl (red_ok (hp p hpm)).1⟩

theorem getD_mem {xs : List (Int × Int)} {k : Nat} (h : k < xs.length) : xs.getD k dd ∈ xs := by rw [List.getD_eq_getElem?_getD, List.getElem?_eq_getElem h]; exact List.getElem_mem h
theorem getD_red {ps : List (Int × Int)} {k : Nat} (h : k < ps.length) : (ps.map red).getD k dd = red (ps.getD k dd) := by
  simp only [List.getD_eq_getElem?_getD, List.getElem?_map, List.getElem?_eq_getElem h, Option.map_some, Option.getD_some]
theorem gcd_abs (a b : Int) : Nat.gcd (absI a).natAbs b.natAbs = Nat.gcd a.natAbs b.natAbs := by
  have : (absI a).natAbs = a.natAbs := by unfold absI; split <;> omega
  rw [this]
theorem eqr (a : Int) : eqB (.int a) (.int a) = some true := by rw [eqB_int, beq_self_eq_true]
theorem st3 {δ : De} {p s : Int × Int} (hp : PB p) (hs : s = red p) (e3 : bin2 ixD (varM 3) (varM 5) δ = some (.ok (fp p) δ)) (e4 : bin2 ixD (varM 4) (varM 5) δ = some (.ok (fp s) δ)) :
    (seqS (thenS (tst (bin2 neD (bin2 mulD (bin2 ixD (bin2 ixD (varM 4) (varM 5)) (pureM (.int 0))) (bin2 ixD (bin2 ixD (varM 3) (varM 5)) (pureM (.int 1)))) (bin2 mulD (bin2 ixD (bin2 ixD (varM 3) (varM 5)) (pureM (.int 0))) (bin2 ixD (bin2 ixD (varM 4) (varM 5)) (pureM (.int 1)))))) fun k => if k then (thenS (pureM (.bl false)) fun d _ => some (.rt d)) else nxS) (seqS (thenS (tst (bin2 ltD (bin2 ixD (bin2 ixD (varM 4) (varM 5)) (pureM (.int 1))) (pureM (.int 1)))) fun k => if k then (thenS (pureM (.bl false)) fun d _ => some (.rt d)) else nxS) (seqS (thenS (andT (tst (bin2 neD (callM F_shared (consM (callB absD (consM (bin2 ixD (bin2 ixD (varM 4) (varM 5)) (pureM (.int 0))) (pureM []))) (consM (bin2 ixD (bin2 ixD (varM 4) (varM 5)) (pureM (.int 1))) (pureM [])))) (pureM (.int 1)))) (tst (bin2 neD (bin2 ixD (bin2 ixD (varM 4) (varM 5)) (pureM (.int 0))) (pureM (.int 0))))) fun k => if k then (thenS (pureM (.bl false)) fun d _ => some (.rt d)) else nxS) (thenS (tst (bin2 neD (callM F_part (consM (bin2 subD (pureM (.int 0)) (bin2 ixD (bin2 ixD (varM 3) (varM 5)) (pureM (.int 0)))) (consM (bin2 subD (pureM (.int 0)) (bin2 ixD (bin2 ixD (varM 3) (varM 5)) (pureM (.int 1)))) (pureM [])))) (bin2 ixD (varM 4) (varM 5)))) fun k => if k then (thenS (pureM (.bl false)) fun d _ => some (.rt d)) else nxS)))) δ = some (.nx δ) := by
  obtain ⟨_, ⟨q1, q2, q3, q4, q5⟩, k⟩ := red_ok hp
  rw [← hs] at q1 q2 q3 q4 q5 k
  obtain ⟨p1, p2, p3, p4⟩ := hp
  have s0 : bin2 ixD (bin2 ixD (varM 4) (varM 5)) (pureM (.int 0)) δ = some (.ok (.int s.1) δ) := bin2_of e4 rfl rfl
  have s1 : bin2 ixD (bin2 ixD (varM 4) (varM 5)) (pureM (.int 1)) δ = some (.ok (.int s.2) δ) := bin2_of e4 rfl rfl
  have t0 : bin2 ixD (bin2 ixD (varM 3) (varM 5)) (pureM (.int 0)) δ = some (.ok (.int p.1) δ) := bin2_of e3 rfl rfl
  have t1 : bin2 ixD (bin2 ixD (varM 3) (varM 5)) (pureM (.int 1)) δ = some (.ok (.int p.2) δ) := bin2_of e3 rfl rfl
  have c1 : bin2 ltD (bin2 ixD (bin2 ixD (varM 4) (varM 5)) (pureM (.int 1))) (pureM (.int 1)) δ = some (.ok (.bl false) δ) := bin2_of s1 rfl (by show some (D.bl (decide (s.2 < 1))) = _; rw [decide_eq_false (by omega)])
  have c2 : callM F_shared (consM (callB absD (consM (bin2 ixD (bin2 ixD (varM 4) (varM 5)) (pureM (.int 0))) (pureM []))) (consM (bin2 ixD (bin2 ixD (varM 4) (varM 5)) (pureM (.int 1))) (pureM []))) δ = some (.ok (.int 1) δ) :=
    call_of (cons_of (cb_of (one_of s0) rfl) (one_of s1)) (by rw [e_shared, gcd_abs, q5]; rfl)
  obtain ⟨a, b, ea, ⟨a1, a2, a3, a4, a5⟩, ka⟩ := e_part 9 (0 - p.1) (0 - p.2) (by omega) (by omega) (by omega) (by omega) (by omega) (by decide)
  obtain ⟨u1, u2⟩ := uniq (p := a) (q := b) (p' := s.1) (q' := s.2) a1 q1 a5 q5 (by
    have : a * s.2 * p.2 = s.1 * b * p.2 := by grind
    exact Int.eq_of_mul_eq_mul_right (by omega) this)
  have c3 : callM F_part (consM (bin2 subD (pureM (.int 0)) (bin2 ixD (bin2 ixD (varM 3) (varM 5)) (pureM (.int 0)))) (consM (bin2 subD (pureM (.int 0)) (bin2 ixD (bin2 ixD (varM 3) (varM 5)) (pureM (.int 1)))) (pureM []))) δ = some (.ok (fp s) δ) :=
    call_of (cons_of (bin2_of rfl t0 rfl) (one_of (bin2_of rfl t1 rfl))) (by rw [ea, u1, u2])
  rw [rt_seq (if_no (ne_no (bin2_of s0 t1 (mul_ok (by omega))) (bin2_of t0 s1 (mul_ok (by omega))) (by rw [eqB_int, k, beq_self_eq_true])))
    (rt_seq (if_no (tst_of c1)) (rt_seq (if_no (and_no1 (ne_no c2 rfl (eqr 1)))) (if_no (ne_no c3 e4 (by rw [show eqB (fp s) (fp s) = _ from eqB_fr s.1 s.2 s.1 s.2]; simp)))))]

theorem st5 {δ : De} {A B : Int × Int} (ha : Q9 A) (hb : Q9 B) (h9 : varM 9 δ = some (.ok (fp A) δ)) (h10 : varM 10 δ = some (.ok (fp B) δ)) :
    (thenS (orT (tst (bin2 neD (bin2 mulD (bin2 mulD (bin2 ixD (callM F_plus (consM (varM 9) (consM (varM 10) (pureM [])))) (pureM (.int 0))) (bin2 ixD (varM 9) (pureM (.int 1)))) (bin2 ixD (varM 10) (pureM (.int 1)))) (bin2 mulD (bin2 addD (bin2 mulD (bin2 ixD (varM 9) (pureM (.int 0))) (bin2 ixD (varM 10) (pureM (.int 1)))) (bin2 mulD (bin2 ixD (varM 10) (pureM (.int 0))) (bin2 ixD (varM 9) (pureM (.int 1))))) (bin2 ixD (callM F_plus (consM (varM 9) (consM (varM 10) (pureM [])))) (pureM (.int 1)))))) (orT (tst (bin2 neD (callM F_minus (consM (callM F_plus (consM (varM 9) (consM (varM 10) (pureM [])))) (consM (varM 10) (pureM [])))) (varM 9))) (tst (bin2 neD (bin2 mulD (bin2 mulD (bin2 ixD (callM F_times (consM (varM 9) (consM (varM 10) (pureM [])))) (pureM (.int 0))) (bin2 ixD (varM 9) (pureM (.int 1)))) (bin2 ixD (varM 10) (pureM (.int 1)))) (bin2 mulD (bin2 mulD (bin2 ixD (varM 9) (pureM (.int 0))) (bin2 ixD (varM 10) (pureM (.int 0)))) (bin2 ixD (callM F_times (consM (varM 9) (consM (varM 10) (pureM [])))) (pureM (.int 1)))))))) fun k => if k then (thenS (pureM (.bl false)) fun d _ => some (.rt d)) else nxS) δ = some (.nx δ) := by
  obtain ⟨p, q, ep, hp, kp⟩ := e_plus ha hb (by decide)
  obtain ⟨r, t, er, hr, kr⟩ := e_minus hp hb (by decide)
  obtain ⟨u, v, eu, hu, ku⟩ := e_times ha hb (by decide)
  obtain ⟨x1, x2, x3, x4, x5⟩ := ha
  obtain ⟨y1, y2, y3, y4, y5⟩ := hb
  obtain ⟨p1, p2, p3, p4, p5⟩ := hp
  obtain ⟨r1, r2, r3, r4, r5⟩ := hr
  obtain ⟨u1, u2, u3, u4, u5⟩ := hu
  have A0 : bin2 ixD (varM 9) (pureM (.int 0)) δ = some (.ok (.int A.1) δ) := bin2_of h9 rfl rfl
  have A1 : bin2 ixD (varM 9) (pureM (.int 1)) δ = some (.ok (.int A.2) δ) := bin2_of h9 rfl rfl
  have B0 : bin2 ixD (varM 10) (pureM (.int 0)) δ = some (.ok (.int B.1) δ) := bin2_of h10 rfl rfl
  have B1 : bin2 ixD (varM 10) (pureM (.int 1)) δ = some (.ok (.int B.2) δ) := bin2_of h10 rfl rfl
  have P := call_of (cons_of h9 (one_of h10)) ep
  have P0 : bin2 ixD (callM F_plus (consM (varM 9) (consM (varM 10) (pureM [])))) (pureM (.int 0)) δ = some (.ok (.int p) δ) := bin2_of P rfl rfl
  have P1 : bin2 ixD (callM F_plus (consM (varM 9) (consM (varM 10) (pureM [])))) (pureM (.int 1)) δ = some (.ok (.int q) δ) := bin2_of P rfl rfl
  have T := call_of (cons_of h9 (one_of h10)) eu
  have T0 : bin2 ixD (callM F_times (consM (varM 9) (consM (varM 10) (pureM [])))) (pureM (.int 0)) δ = some (.ok (.int u) δ) := bin2_of T rfl rfl
  have T1 : bin2 ixD (callM F_times (consM (varM 9) (consM (varM 10) (pureM [])))) (pureM (.int 1)) δ = some (.ok (.int v) δ) := bin2_of T rfl rfl
  have M := call_of (cons_of P (one_of h10)) er
  obtain ⟨e1, e2⟩ := uniq (p := r) (q := t) (p' := A.1) (q' := A.2) r1 x1 r5 x5 (by
    have : r * A.2 * (q * B.2 * B.2) = A.1 * t * (q * B.2 * B.2) := by grind
    exact Int.eq_of_mul_eq_mul_right (Int.mul_ne_zero (Int.mul_ne_zero (by omega) (by omega)) (by omega)) this)
  have n1 : tst (bin2 neD (bin2 mulD (bin2 mulD (bin2 ixD (callM F_plus (consM (varM 9) (consM (varM 10) (pureM [])))) (pureM (.int 0))) (bin2 ixD (varM 9) (pureM (.int 1)))) (bin2 ixD (varM 10) (pureM (.int 1)))) (bin2 mulD (bin2 addD (bin2 mulD (bin2 ixD (varM 9) (pureM (.int 0))) (bin2 ixD (varM 10) (pureM (.int 1)))) (bin2 mulD (bin2 ixD (varM 10) (pureM (.int 0))) (bin2 ixD (varM 9) (pureM (.int 1))))) (bin2 ixD (callM F_plus (consM (varM 9) (consM (varM 10) (pureM [])))) (pureM (.int 1))))) δ = some (.ok false δ) :=
    ne_no (bin2_of (bin2_of P0 A1 (mul_ok (by omega))) B1 (mul_ok' (by omega))) (bin2_of (bin2_of (bin2_of A0 B1 (mul_ok (by omega))) (bin2_of B0 A1 (mul_ok (by omega))) rfl) P1 (mul_ok' (by omega)))
      (by rw [show p * A.2 * B.2 = (A.1 * B.2 + B.1 * A.2) * q by grind]; exact eqr _)
  have n2 : tst (bin2 neD (callM F_minus (consM (callM F_plus (consM (varM 9) (consM (varM 10) (pureM [])))) (consM (varM 10) (pureM [])))) (varM 9)) δ = some (.ok false δ) := ne_no M h9 (by rw [e1, e2, show eqB (fr A.1 A.2) (fp A) = _ from eqB_fr A.1 A.2 A.1 A.2]; simp)
  have n3 : tst (bin2 neD (bin2 mulD (bin2 mulD (bin2 ixD (callM F_times (consM (varM 9) (consM (varM 10) (pureM [])))) (pureM (.int 0))) (bin2 ixD (varM 9) (pureM (.int 1)))) (bin2 ixD (varM 10) (pureM (.int 1)))) (bin2 mulD (bin2 mulD (bin2 ixD (varM 9) (pureM (.int 0))) (bin2 ixD (varM 10) (pureM (.int 0)))) (bin2 ixD (callM F_times (consM (varM 9) (consM (varM 10) (pureM [])))) (pureM (.int 1))))) δ = some (.ok false δ) :=
    ne_no (bin2_of (bin2_of T0 A1 (mul_ok (by omega))) B1 (mul_ok' (by omega))) (bin2_of (bin2_of A0 B0 (mul_ok (by omega))) T1 (mul_ok' (by omega))) (by rw [show u * A.2 * B.2 = A.1 * B.1 * v by grind]; exact eqr _)
  exact if_no (or_no n1 (or_no n2 n3))
theorem one_ok {δ : De} {p q N : Int} (hq : Q N p q) (h6 : varM 6 δ = some (.ok (fr p q) δ)) :
    (thenS (orT (tst (bin2 ltD (bin2 ixD (varM 6) (pureM (.int 1))) (pureM (.int 1)))) (orT (andT (tst (bin2 neD (bin2 ixD (varM 6) (pureM (.int 0))) (pureM (.int 0)))) (tst (bin2 neD (callM F_shared (consM (callB absD (consM (bin2 ixD (varM 6) (pureM (.int 0))) (pureM []))) (consM (bin2 ixD (varM 6) (pureM (.int 1))) (pureM [])))) (pureM (.int 1))))) (andT (tst (bin2 eqD (bin2 ixD (varM 6) (pureM (.int 0))) (pureM (.int 0)))) (tst (bin2 neD (bin2 ixD (varM 6) (pureM (.int 1))) (pureM (.int 1))))))) fun k => if k then (thenS (pureM (.bl false)) fun d _ => some (.rt d)) else nxS) δ = some (.nx δ) := by
  obtain ⟨q1, q2, q3, q4, q5⟩ := hq
  have O0 : bin2 ixD (varM 6) (pureM (.int 0)) δ = some (.ok (.int p) δ) := bin2_of h6 rfl rfl
  have O1 : bin2 ixD (varM 6) (pureM (.int 1)) δ = some (.ok (.int q) δ) := bin2_of h6 rfl rfl
  have c1 : bin2 ltD (bin2 ixD (varM 6) (pureM (.int 1))) (pureM (.int 1)) δ = some (.ok (.bl false) δ) := bin2_of O1 rfl (by show some (D.bl (decide (q < 1))) = _; rw [decide_eq_false (by omega)])
  have c2 : callM F_shared (consM (callB absD (consM (bin2 ixD (varM 6) (pureM (.int 0))) (pureM []))) (consM (bin2 ixD (varM 6) (pureM (.int 1))) (pureM []))) δ = some (.ok (.int 1) δ) := call_of (cons_of (cb_of (one_of O0) rfl) (one_of O1)) (by rw [e_shared, gcd_abs, q5]; rfl)
  have c3 : tst (bin2 neD (callM F_shared (consM (callB absD (consM (bin2 ixD (varM 6) (pureM (.int 0))) (pureM []))) (consM (bin2 ixD (varM 6) (pureM (.int 1))) (pureM [])))) (pureM (.int 1))) δ = some (.ok false δ) := ne_no c2 rfl (eqr 1)
  by_cases hp : p = 0
  · have e1 : q = 1 := by rw [hp] at q5; simp at q5; omega
    have d1 : tst (bin2 neD (bin2 ixD (varM 6) (pureM (.int 0))) (pureM (.int 0))) δ = some (.ok false δ) := ne_no O0 rfl (by rw [hp]; exact eqr 0)
    have d2 : tst (bin2 eqD (bin2 ixD (varM 6) (pureM (.int 0))) (pureM (.int 0))) δ = some (.ok true δ) := eq_of O0 rfl (by rw [hp]; exact eqr 0)
    have d3 : tst (bin2 neD (bin2 ixD (varM 6) (pureM (.int 1))) (pureM (.int 1))) δ = some (.ok false δ) := ne_no O1 rfl (by rw [e1]; exact eqr 1)
    exact if_no (or_no (tst_of c1) (or_no (and_no1 d1) (and_2 d2 d3)))
  · have d1 : tst (bin2 neD (bin2 ixD (varM 6) (pureM (.int 0))) (pureM (.int 0))) δ = some (.ok true δ) := tst_of (bin2_of O0 rfl (by rw [neD_int, beq_false_of_ne hp]; rfl))
    have d2 : tst (bin2 eqD (bin2 ixD (varM 6) (pureM (.int 0))) (pureM (.int 0))) δ = some (.ok false δ) := eq_of O0 rfl (by rw [eqB_int, beq_false_of_ne hp])
    exact if_no (or_no (tst_of c1) (or_no (and_2 d1 c3) (and_no1 d2)))
theorem st6i {δ : De} {A B : Int × Int} (ha : Q9 A) (hb : Q9 B) (h9 : varM 9 δ = some (.ok (fp A) δ)) (h10 : varM 10 δ = some (.ok (fp B) δ)) :
    ∃ ds : List D, seqM (bin2 addD (lstM (consM (callM F_plus (consM (varM 9) (consM (varM 10) (pureM [])))) (consM (callM F_minus (consM (varM 9) (consM (varM 10) (pureM [])))) (consM (callM F_times (consM (varM 9) (consM (varM 10) (pureM [])))) (pureM []))))) (iteM (tst (bin2 neD (bin2 ixD (varM 10) (pureM (.int 0))) (pureM (.int 0)))) (lstM (consM (callM F_by (consM (varM 9) (consM (varM 10) (pureM [])))) (pureM []))) (lstM (pureM [])))) δ = some (.ok ds δ) ∧
      ∀ d ∈ ds, ∃ p q N, d = fr p q ∧ Q N p q := by
  obtain ⟨p, q, ep, hp, kp⟩ := e_plus ha hb (by decide)
  obtain ⟨r, t, er, hr, kr⟩ := e_minus ha hb (by decide)
  obtain ⟨u, v, eu, hu, ku⟩ := e_times ha hb (by decide)
  have B0 : bin2 ixD (varM 10) (pureM (.int 0)) δ = some (.ok (.int B.1) δ) := bin2_of h10 rfl rfl
  have l1 : lstM (consM (callM F_plus (consM (varM 9) (consM (varM 10) (pureM [])))) (consM (callM F_minus (consM (varM 9) (consM (varM 10) (pureM [])))) (consM (callM F_times (consM (varM 9) (consM (varM 10) (pureM [])))) (pureM [])))) δ = some (.ok (.lst [fr p q, fr r t, fr u v]) δ) :=
    lst_of (cons_of (call_of (cons_of h9 (one_of h10)) ep) (cons_of (call_of (cons_of h9 (one_of h10)) er) (one_of (call_of (cons_of h9 (one_of h10)) eu)))) (by simp)
  by_cases h0 : B.1 = 0
  · have c1 : tst (bin2 neD (bin2 ixD (varM 10) (pureM (.int 0))) (pureM (.int 0))) δ = some (.ok false δ) := ne_no B0 rfl (by rw [h0]; exact eqr 0)
    refine ⟨[fr p q, fr r t, fr u v], ?_, fun d hd => ?_⟩
    · unfold seqM
      rw [bindM_ok (bin2_of (d := .lst [fr p q, fr r t, fr u v]) l1 (show iteM _ _ _ δ = some (.ok (.lst []) δ) by unfold iteM; rw [bindM_ok c1]; rfl) rfl)]
      rfl
    · simp only [List.mem_cons, List.not_mem_nil, or_false] at hd
      rcases hd with e | e | e <;> subst e
      · exact ⟨_, _, _, rfl, hp⟩
      · exact ⟨_, _, _, rfl, hr⟩
      · exact ⟨_, _, _, rfl, hu⟩
  · have c1 : tst (bin2 neD (bin2 ixD (varM 10) (pureM (.int 0))) (pureM (.int 0))) δ = some (.ok true δ) := tst_of (bin2_of B0 rfl (by rw [neD_int, beq_false_of_ne h0]; rfl))
    obtain ⟨a, b, eb, hb', kb⟩ := e_by ha hb h0 (by decide)
    have l2 : lstM (consM (callM F_by (consM (varM 9) (consM (varM 10) (pureM [])))) (pureM [])) δ = some (.ok (.lst [fr a b]) δ) := lst_of (one_of (call_of (cons_of h9 (one_of h10)) eb)) (by simp)
    refine ⟨[fr p q, fr r t, fr u v, fr a b], ?_, fun d hd => ?_⟩
    · unfold seqM
      rw [bindM_ok (bin2_of (d := .lst [fr p q, fr r t, fr u v, fr a b]) l1 (show iteM _ _ _ δ = some (.ok (.lst [fr a b]) δ) by unfold iteM; rw [bindM_ok c1]; exact l2) rfl)]
      rfl
    · simp only [List.mem_cons, List.not_mem_nil, or_false] at hd
      rcases hd with e | e | e | e <;> subst e
      · exact ⟨_, _, _, rfl, hp⟩
      · exact ⟨_, _, _, rfl, hr⟩
      · exact ⟨_, _, _, rfl, hu⟩
      · exact ⟨_, _, _, rfl, hb'⟩

theorem st7 {δ : De} {A B : Int × Int} (ha : Q9 A) (hb : Q9 B) (h9 : varM 9 δ = some (.ok (fp A) δ)) (h10 : varM 10 δ = some (.ok (fp B) δ)) :
    (thenS (orT (tst (bin2 neD (callM F_is_less (consM (varM 9) (consM (varM 10) (pureM [])))) (callM F__law_less (consM (varM 9) (consM (varM 10) (pureM [])))))) (orT (tst (bin2 neD (callM F_least (consM (varM 9) (consM (varM 10) (pureM [])))) (iteM (tst (callM F__law_less (consM (varM 10) (consM (varM 9) (pureM []))))) (varM 10) (varM 9)))) (tst (bin2 neD (callM F_greatest (consM (varM 9) (consM (varM 10) (pureM [])))) (iteM (tst (callM F__law_less (consM (varM 9) (consM (varM 10) (pureM []))))) (varM 10) (varM 9)))))) fun k => if k then (thenS (pureM (.bl false)) fun d _ => some (.rt d)) else nxS) δ = some (.nx δ) := by
  have l1 := e_less ha hb (by decide)
  have l2 := e_lawless ha hb (by decide)
  have l3 := e_lawless hb ha (by decide)
  have g1 := e_least ha hb (by decide)
  have g2 := e_greatest ha hb (by decide)
  have n1 : tst (bin2 neD (callM F_is_less (consM (varM 9) (consM (varM 10) (pureM [])))) (callM F__law_less (consM (varM 9) (consM (varM 10) (pureM []))))) δ = some (.ok false δ) := ne_no (call_of (cons_of h9 (one_of h10)) l1) (call_of (cons_of h9 (one_of h10)) l2) (by rw [eqB_bl, beq_self_eq_true])
  have i1 : iteM (tst (callM F__law_less (consM (varM 10) (consM (varM 9) (pureM []))))) (varM 10) (varM 9) δ = some (.ok (if less B.1 B.2 A.1 A.2 then fr B.1 B.2 else fr A.1 A.2) δ) := by
    unfold iteM
    rw [bindM_ok (tst_of (call_of (cons_of h10 (one_of h9)) l3))]
    cases less B.1 B.2 A.1 A.2
    · exact h9
    · exact h10
  have i2 : iteM (tst (callM F__law_less (consM (varM 9) (consM (varM 10) (pureM []))))) (varM 10) (varM 9) δ = some (.ok (if less A.1 A.2 B.1 B.2 then fr B.1 B.2 else fr A.1 A.2) δ) := by
    unfold iteM
    rw [bindM_ok (tst_of (call_of (cons_of h9 (one_of h10)) l2))]
    cases less A.1 A.2 B.1 B.2
    · exact h9
    · exact h10
  have rf : ∀ (k : Bool) (x y : Int × Int), eqB (if k then fp x else fp y) (if k then fp x else fp y) = some true := fun k x y => by
    cases k
    · rw [if_neg Bool.false_ne_true, show eqB (fp y) (fp y) = _ from eqB_fr y.1 y.2 y.1 y.2]; simp
    · rw [if_pos rfl, show eqB (fp x) (fp x) = _ from eqB_fr x.1 x.2 x.1 x.2]; simp
  have n2 : tst (bin2 neD (callM F_least (consM (varM 9) (consM (varM 10) (pureM [])))) (iteM (tst (callM F__law_less (consM (varM 10) (consM (varM 9) (pureM []))))) (varM 10) (varM 9))) δ = some (.ok false δ) := ne_no (call_of (cons_of h9 (one_of h10)) g1) i1 (rf _ B A)
  have n3 : tst (bin2 neD (callM F_greatest (consM (varM 9) (consM (varM 10) (pureM [])))) (iteM (tst (callM F__law_less (consM (varM 9) (consM (varM 10) (pureM []))))) (varM 10) (varM 9))) δ = some (.ok false δ) := ne_no (call_of (cons_of h9 (one_of h10)) g2) i2 (rf _ B A)
  exact if_no (or_no n1 (or_no n2 n3))
theorem st8 {δ : De} {A B : Int × Int} (ha : Q9 A) (hb : Q9 B) (h9 : varM 9 δ = some (.ok (fp A) δ)) (h10 : varM 10 δ = some (.ok (fp B) δ)) :
    (thenS (orT (andT (tst (bin2 neD (bin2 ixD (varM 10) (pureM (.int 0))) (pureM (.int 0)))) (tst (bin2 neD (callM F_times (consM (callM F_by (consM (varM 9) (consM (varM 10) (pureM [])))) (consM (varM 10) (pureM [])))) (varM 9)))) (orT (tst (bin2 gtD (bin2 mulD (callM F_whole_below (consM (varM 9) (pureM []))) (bin2 ixD (varM 9) (pureM (.int 1)))) (bin2 ixD (varM 9) (pureM (.int 0))))) (tst (bin2 leD (bin2 mulD (bin2 addD (callM F_whole_below (consM (varM 9) (pureM []))) (pureM (.int 1))) (bin2 ixD (varM 9) (pureM (.int 1)))) (bin2 ixD (varM 9) (pureM (.int 0))))))) fun k => if k then (thenS (pureM (.bl false)) fun d _ => some (.rt d)) else nxS) δ = some (.nx δ) := by
  have hw := e_whole ha (by decide)
  have W := call_of (one_of h9) hw
  have A0 : bin2 ixD (varM 9) (pureM (.int 0)) δ = some (.ok (.int A.1) δ) := bin2_of h9 rfl rfl
  have A1 : bin2 ixD (varM 9) (pureM (.int 1)) δ = some (.ok (.int A.2) δ) := bin2_of h9 rfl rfl
  have B0 : bin2 ixD (varM 10) (pureM (.int 0)) δ = some (.ok (.int B.1) δ) := bin2_of h10 rfl rfl
  have ha' := ha
  obtain ⟨x1, x2, x3, x4, x5⟩ := ha'
  have w1 : A.1 / A.2 * A.2 ≤ A.1 := Int.ediv_mul_le A.1 (by omega)
  have w2 : A.1 < (A.1 / A.2 + 1) * A.2 := Int.lt_ediv_add_one_mul_self A.1 x1
  have n2 : tst (bin2 gtD (bin2 mulD (callM F_whole_below (consM (varM 9) (pureM []))) (bin2 ixD (varM 9) (pureM (.int 1)))) (bin2 ixD (varM 9) (pureM (.int 0)))) δ = some (.ok false δ) :=
    tst_of (bin2_of (bin2_of W A1 (mul_ok' (by omega))) A0 (by show some (D.bl (decide (A.1 < A.1 / A.2 * A.2))) = _; rw [decide_eq_false (by omega)]))
  have n3 : tst (bin2 leD (bin2 mulD (bin2 addD (callM F_whole_below (consM (varM 9) (pureM []))) (pureM (.int 1))) (bin2 ixD (varM 9) (pureM (.int 1)))) (bin2 ixD (varM 9) (pureM (.int 0)))) δ = some (.ok false δ) :=
    tst_of (bin2_of (bin2_of (bin2_of W rfl rfl) A1 (mul_ok' (by omega))) A0 (by show some (D.bl (decide ((A.1 / A.2 + 1) * A.2 ≤ A.1))) = _; rw [decide_eq_false (by omega)]))
  have n1 : andT (tst (bin2 neD (bin2 ixD (varM 10) (pureM (.int 0))) (pureM (.int 0)))) (tst (bin2 neD (callM F_times (consM (callM F_by (consM (varM 9) (consM (varM 10) (pureM [])))) (consM (varM 10) (pureM [])))) (varM 9))) δ = some (.ok false δ) := by
    by_cases h0 : B.1 = 0
    · exact and_no1 (ne_no B0 rfl (by rw [h0]; exact eqr 0))
    · obtain ⟨c0, c1, ec, hc, kc⟩ := e_by ha hb h0 (by decide)
      obtain ⟨t0, t1, et, ht, kt⟩ := e_times hc hb (by decide)
      obtain ⟨c_1, _⟩ := hc
      obtain ⟨y1, y2, y3, y4, y5⟩ := hb
      obtain ⟨t_1, t_2, t_3, t_4, t_5⟩ := ht
      obtain ⟨u1, u2⟩ := uniq (p := t0) (q := t1) (p' := A.1) (q' := A.2) t_1 x1 t_5 x5 (by
        have : t0 * A.2 * (c1 * B.2 * B.1) = A.1 * t1 * (c1 * B.2 * B.1) := by grind
        exact Int.eq_of_mul_eq_mul_right (Int.mul_ne_zero (Int.mul_ne_zero (by omega) (by omega)) h0) this)
      have T := call_of (cons_of (call_of (cons_of h9 (one_of h10)) ec) (one_of h10)) et
      exact and_2 (tst_of (bin2_of B0 rfl (by rw [neD_int, beq_false_of_ne h0]; rfl))) (ne_no T h9 (by rw [u1, u2, show eqB (fr A.1 A.2) (fp A) = _ from eqB_fr A.1 A.2 A.1 A.2]; simp))
  exact if_no (or_no n1 (or_no n2 n3))
theorem st9 {δ : De} {A B : Int × Int} (ha : Q9 A) (hb : Q9 B) (h9 : varM 9 δ = some (.ok (fp A) δ)) (h10 : varM 10 δ = some (.ok (fp B) δ)) (h9' : ∀ s, varM 9 (δ.set 11 s) = some (.ok (fp A) (δ.set 11 s))) (h10' : ∀ s, varM 10 (δ.set 11 s) = some (.ok (fp B) (δ.set 11 s)))
    (h11 : ∀ d, varM 11 (δ.set 11 (.val d)) = some (.ok d (δ.set 11 (.val d)))) : ∃ s, (thenS (tst (bin2 gtD (bin2 ixD (varM 10) (pureM (.int 0))) (pureM (.int 0)))) fun k => if k then (seqS (thenS (callM F_rest_by (consM (varM 9) (consM (varM 10) (pureM [])))) fun d δ => some (.nx (δ.set 11 (.val d)))) (thenS (orT (tst (bin2 ltD (bin2 ixD (varM 11) (pureM (.int 0))) (pureM (.int 0)))) (orT (bindM (tst (callM F_is_less (consM (varM 11) (consM (varM 10) (pureM []))))) fun k => pureM (!k)) (tst (bin2 neD (bin2 ixD (callM F_by (consM (callM F_minus (consM (varM 9) (consM (varM 11) (pureM [])))) (consM (varM 10) (pureM [])))) (pureM (.int 1))) (pureM (.int 1)))))) fun k => if k then (thenS (pureM (.bl false)) fun d _ => some (.rt d)) else nxS)) else nxS) δ = some (.nx (δ.set 11 s)) ∨ (thenS (tst (bin2 gtD (bin2 ixD (varM 10) (pureM (.int 0))) (pureM (.int 0)))) fun k => if k then (seqS (thenS (callM F_rest_by (consM (varM 9) (consM (varM 10) (pureM [])))) fun d δ => some (.nx (δ.set 11 (.val d)))) (thenS (orT (tst (bin2 ltD (bin2 ixD (varM 11) (pureM (.int 0))) (pureM (.int 0)))) (orT (bindM (tst (callM F_is_less (consM (varM 11) (consM (varM 10) (pureM []))))) fun k => pureM (!k)) (tst (bin2 neD (bin2 ixD (callM F_by (consM (callM F_minus (consM (varM 9) (consM (varM 11) (pureM [])))) (consM (varM 10) (pureM [])))) (pureM (.int 1))) (pureM (.int 1)))))) fun k => if k then (thenS (pureM (.bl false)) fun d _ => some (.rt d)) else nxS)) else nxS) δ = some (.nx δ) := by
  have B0 : bin2 ixD (varM 10) (pureM (.int 0)) δ = some (.ok (.int B.1) δ) := bin2_of h10 rfl rfl
  have c : tst (bin2 gtD (bin2 ixD (varM 10) (pureM (.int 0))) (pureM (.int 0))) δ = some (.ok (decide (0 < B.1)) δ) := tst_of (bin2_of B0 rfl rfl)
  by_cases h0 : 0 < B.1
  · obtain ⟨r0, r1, er, hr, rn, rl, m0, m1, n0, em, en⟩ := e_rest ha hb h0
    refine ⟨.val (fr r0 r1), .inl ?_⟩
    rw [thenS_ok c, decide_eq_true h0, if_pos rfl]
    have a1 : thenS (callM F_rest_by (consM (varM 9) (consM (varM 10) (pureM [])))) (fun d δ => some (Out.nx (δ.set 11 (.val d)))) δ = some (.nx (δ.set 11 (.val (fr r0 r1)))) := by rw [thenS_ok (call_of (cons_of h9 (one_of h10)) er)]
    rw [seqS_nx a1]
    have H9 := h9' (.val (fr r0 r1)); have H10 := h10' (.val (fr r0 r1)); have H11 := h11 (fr r0 r1)
    have R0 := bin2_of (g := ixD) (n := pureM (.int 0)) (y := .int 0) (d := .int r0) H11 rfl rfl
    have t1 : tst (bin2 ltD (bin2 ixD (varM 11) (pureM (.int 0))) (pureM (.int 0))) (δ.set 11 (.val (fr r0 r1))) = some (.ok false _) := tst_of (bin2_of R0 rfl (by show some (D.bl (decide (r0 < 0))) = _; rw [decide_eq_false (by omega)]))
    have l := e_less hr hb (by decide)
    rw [rl] at l
    have t2 : bindM (tst (callM F_is_less (consM (varM 11) (consM (varM 10) (pureM []))))) (fun k => pureM (!k)) (δ.set 11 (.val (fr r0 r1))) = some (.ok false _) := not_no (tst_of (call_of (cons_of H11 (one_of H10)) l))
    have Y := call_of (cons_of (call_of (cons_of H9 (one_of H11)) em) (one_of H10)) en
    have t3 : tst (bin2 neD (bin2 ixD (callM F_by (consM (callM F_minus (consM (varM 9) (consM (varM 11) (pureM [])))) (consM (varM 10) (pureM [])))) (pureM (.int 1))) (pureM (.int 1))) (δ.set 11 (.val (fr r0 r1))) = some (.ok false _) := ne_no (bin2_of (d := .int 1) Y rfl rfl) rfl (eqr 1)
    exact if_no (or_no t1 (or_no t2 t3))
  · refine ⟨.un, .inr ?_⟩
    rw [thenS_ok c, decide_eq_false h0]
    rfl

theorem fdiv_ok {i j : Int} (h1 : 0 < j) (h2 : j < 1073741824) : fdivD (.int i) (.int j) = some (.int (i / j)) := by
  unfold fdivD int2C
  dsimp only
  rw [if_pos (show CDivN i j from ⟨by omega, by omega⟩), Int.fdiv_eq_ediv_of_nonneg i (by omega)]
theorem st10 {δ : De} {zs ss : List (Int × Int)} (h7 : δ[7]? = some (.val (.tup (zs.map fp)))) (h4 : δ[4]? = some (.val (.lst (ss.map fp)))) (hl : δ.length = 15) (h5 : ownAt δ 5 = none) (hp : zs.Perm ss) (ha : adj zs) (hq : ∀ x ∈ ss, Q9 x) (hn : ss.length ≤ 6) :
    (thenS (orT (tst (bin2 neD (callB sortedD (consM (varM 7) (pureM []))) (callB sortedD (consM (varM 4) (pureM []))))) (tst (bin2 neD (lcM [5] (bName 5) (tst (callM F__law_less (consM (bin2 ixD (varM 7) (varM 5)) (consM (bin2 ixD (varM 7) (bin2 subD (varM 5) (pureM (.int 1)))) (pureM []))))) (varM 5) (itM rng2 (consM (pureM (.int 1)) (consM (callB lenD (consM (varM 7) (pureM []))) (pureM []))))) (lstM (pureM []))))) fun k => if k then (thenS (pureM (.bl false)) fun d _ => some (.rt d)) else nxS) δ = some (.nx δ) := by
  have nz : zs.length = ss.length := hp.length_eq
  have a1 : callB sortedD (consM (varM 7) (pureM [])) δ = some (.ok (.lst ((ss.mergeSort le2).map fp)) δ) := cb_of (one_of (var_of h7)) (by
    show (if okSort (zs.map fp) then some (D.lst (sortL (zs.map fp))) else none) = _
    rw [if_pos (okS (by omega)), sortL_fp, sort_perm hp])
  have a2 : callB sortedD (consM (varM 4) (pureM [])) δ = some (.ok (.lst ((ss.mergeSort le2).map fp)) δ) := cb_of (one_of (var_of h4)) (by
    show (if okSort (ss.map fp) then some (D.lst (sortL (ss.map fp))) else none) = _
    rw [if_pos (okS (by omega)), sortL_fp])
  have hi : itM rng2 (consM (pureM (.int 1)) (consM (callB lenD (consM (varM 7) (pureM []))) (pureM []))) δ = some (.ok (rangeL 1 (zs.length - 1)) δ) := by
    have l1 : callB lenD (consM (varM 7) (pureM [])) δ = some (.ok (.int zs.length) δ) := cb_of (one_of (var_of h7)) (by show some (D.int ((zs.map fp).length : Nat)) = _; rw [List.length_map])
    refine itM_of (cons_of rfl (one_of l1)) ?_
    show (if FL.inR 1 ∧ FL.inR (zs.length : Int) then some (rangeL 1 ((zs.length : Int) - 1).toNat) else none) = _
    rw [if_pos ⟨by unfold FL.inR; omega, by unfold FL.inR; omega⟩, show ((zs.length : Int) - 1).toNat = zs.length - 1 by omega]
  have a3 : lcM [5] (bName 5) (tst (callM F__law_less (consM (bin2 ixD (varM 7) (varM 5)) (consM (bin2 ixD (varM 7) (bin2 subD (varM 5) (pureM (.int 1)))) (pureM []))))) (varM 5) (itM rng2 (consM (pureM (.int 1)) (consM (callB lenD (consM (varM 7) (pureM []))) (pureM [])))) δ = some (.ok (.lst []) δ) := by
    have := lcM_filter (vs := [5]) (bd := bName 5) (tt := tst (callM F__law_less (consM (bin2 ixD (varM 7) (varM 5)) (consM (bin2 ixD (varM 7) (bin2 subD (varM 5) (pureM (.int 1)))) (pureM []))))) (fe := varM 5) (p := fun _ => false) (g := id) hi (by rw [rangeL_len]; omega) (by unfold noOwn; simp [h5]) fun d hd => by
      obtain ⟨k, hk, rfl⟩ := rangeL_mem hd
      obtain ⟨δ1, e1, rfl, e2, e3⟩ := bind1 (v := 5) (d := .int (1 + k)) (δ := δ)
      refine ⟨_, e1, e2, e3, ?_, fun h => by cases h⟩
      have v5 : varM 5 (δ.set 5 (.val (.int (1 + k)))) = some (.ok (.int (1 + k)) (δ.set 5 (.val (.int (1 + k))))) := var_of (List.getElem?_set_self (by omega))
      have v7 : varM 7 (δ.set 5 (.val (.int (1 + k)))) = some (.ok (.tup (zs.map fp)) (δ.set 5 (.val (.int (1 + k))))) := var_of (by rw [List.getElem?_set_ne (by decide)]; exact h7)
      have i1 : bin2 ixD (varM 7) (varM 5) (δ.set 5 (.val (.int (1 + k)))) = some (.ok (fp (zs.getD (k + 1) dd)) (δ.set 5 (.val (.int (1 + k))))) := bin2_of v7 v5 (by
        rw [show (1 : Int) + (k : Int) = ((k + 1 : Nat) : Int) by omega]; exact at_fpt (by omega))
      have i0 : bin2 subD (varM 5) (pureM (.int 1)) (δ.set 5 (.val (.int (1 + k)))) = some (.ok (.int k) (δ.set 5 (.val (.int (1 + k))))) := bin2_of v5 rfl (by
        show some (D.int (1 + (k : Int) - 1)) = _
        rw [show 1 + (k : Int) - 1 = k by omega])
      have i2 : bin2 ixD (varM 7) (bin2 subD (varM 5) (pureM (.int 1))) (δ.set 5 (.val (.int (1 + k)))) = some (.ok (fp (zs.getD k dd)) (δ.set 5 (.val (.int (1 + k))))) := bin2_of v7 i0 (at_fpt (by omega))
      have q1 := hq _ (hp.mem_iff.mp (getD_mem (xs := zs) (k := k + 1) (by omega)))
      have q2 := hq _ (hp.mem_iff.mp (getD_mem (xs := zs) (k := k) (by omega)))
      have l := e_lawless q1 q2 (by decide)
      have l2 : less (zs.getD (k + 1) dd).1 (zs.getD (k + 1) dd).2 (zs.getD k dd).1 (zs.getD k dd).2 = false := ha k (by omega)
      rw [l2] at l
      exact tst_of (call_of (cons_of i1 (one_of i2)) l)
    rw [this]
    have : (rangeL 1 (zs.length - 1)).filter (fun _ => false) = [] := by simp
    rw [this]
    rfl
  exact if_no (or_no (ne_no a1 a2 (eqB_fps _)) (ne_no a3 (lst_of rfl (by decide)) eqB_nil))
def NO (s : Sl) : Prop := ∀ xs, s ≠ .own xs
theorem own_no {δ : De} {i : Nat} {s : Sl} (h : δ[i]? = some s) (n : NO s) : ownAt δ i = none := by
  unfold ownAt
  rw [h]
  cases s with
  | own xs => exact absurd rfl (n xs)
  | un => rfl
  | val d => rfl
theorem low_loop {s1 s5 s6 s7 s9 s10 s11 : Sl} {ps ss : List (Int × Int)} : ∀ (xs : List (Int × Int)) (L : Int) (s12 s13 : Sl), (∀ x ∈ xs, Q9 x) → NO s12 → NO s13 → ∃ s12' s13', NO s12' ∧ NO s13' ∧ forD (bTup (bCons (bName 12) (bCons (bName 13) (bNil)))) (thenS (bin2 mulD (varM 8) (varM 13)) fun d δ => some (.nx (δ.set 8 (.val d)))) (xs.map fp) (ST s1 ps ss s5 s6 s7 (.val (.int L)) s9 s10 s11 s12 s13) = some (.nx (ST s1 ps ss s5 s6 s7 (.val (.int (Lx xs L))) s9 s10 s11 s12' s13'))
  | [], L, s12, s13, _, n1, n2 => ⟨s12, s13, n1, n2, rfl⟩
  | x :: xs, L, s12, s13, h, n1, n2 => by
    obtain ⟨q1, q2, _⟩ := h x (by simp)
    obtain ⟨a, b, na, nb, r⟩ := low_loop xs (L * x.2) (.val (.int x.1)) (.val (.int x.2)) (fun y hy => h y (by simp [hy])) (fun _ z => by cases z) (fun _ z => by cases z)
    refine ⟨a, b, na, nb, ?_⟩
    rw [List.map_cons, forD]
    have e : thenS (bin2 mulD (varM 8) (varM 13)) (fun d δ => some (Out.nx (δ.set 8 (.val d)))) (ST s1 ps ss s5 s6 s7 (.val (.int L)) s9 s10 s11 (.val (.int x.1)) (.val (.int x.2))) = some (.nx (ST s1 ps ss s5 s6 s7 (.val (.int (L * x.2))) s9 s10 s11 (.val (.int x.1)) (.val (.int x.2)))) := by
      rw [thenS_ok (bin2_of (x := .int L) (y := .int x.2) rfl rfl (mul_ok' (by omega)))]
      rfl
    show (match thenS (bin2 mulD (varM 8) (varM 13)) (fun d δ => some (Out.nx (δ.set 8 (.val d)))) (ST s1 ps ss s5 s6 s7 (.val (.int L)) s9 s10 s11 (.val (.int x.1)) (.val (.int x.2))) with | some (.nx δ2) => _ | some (.ct δ2) => _ | some (.bk δ2) => _ | o => o) = _
    rw [e]
    exact r
def Px : List (Int × Int) → Int
  | [] => 1
  | x :: xs => x.2 * Px xs
theorem Lx_eq : ∀ (xs : List (Int × Int)) (L : Int), Lx xs L = L * Px xs
  | [], L => by simp [Lx, Px]
  | x :: xs, L => by rw [Lx, Lx_eq xs, Px, Int.mul_assoc]
theorem dvd_Px : ∀ (xs : List (Int × Int)) (x : Int × Int), x ∈ xs → x.2 ∣ Px xs
  | y :: xs, x, h => by
    rcases List.mem_cons.mp h with e | h
    · rw [e]; exact ⟨Px xs, rfl⟩
    · obtain ⟨c, hc⟩ := dvd_Px xs x h
      exact ⟨y.2 * c, by rw [Px, hc]; grind⟩
theorem Nx_sum : ∀ (xs : List (Int × Int)) (L N : Int), (∀ x ∈ xs, 0 < x.2) → Nx xs L N = N * Px xs + (xs.map fun x => x.1 * (L * Px xs / x.2)).sum
  | [], L, N, _ => by simp [Nx, Px]
  | x :: xs, L, N, h => by
    have hx := h x (by simp)
    rw [Nx, Nx_sum xs _ _ fun y hy => h y (by simp [hy]), Px, List.map_cons, List.sum_cons]
    have e1 : L * (x.2 * Px xs) / x.2 = L * Px xs := by
      rw [show L * (x.2 * Px xs) = L * Px xs * x.2 by grind]; exact Int.mul_ediv_cancel _ (by omega)
    rw [e1, show L * x.2 * Px xs = L * (x.2 * Px xs) by grind]
    grind
theorem st13 {s1 s5 s6 s7 s9 s10 s11 s12 s13 : Sl} {ps ss : List (Int × Int)} (hq : ∀ x ∈ ss, Q9 x) (hn : ss.length ≤ 6) (h12 : ownAt (ST s1 ps ss s5 s6 s7 (.val (.int (Lx ss 1))) s9 s10 s11 s12 s13) 12 = none) (h13 : ownAt (ST s1 ps ss s5 s6 s7 (.val (.int (Lx ss 1))) s9 s10 s11 s12 s13) 13 = none) :
    (thenS (tst (bin2 neD (bin2 mulD (bin2 ixD (callM F_total (consM (varM 4) (pureM []))) (pureM (.int 0))) (varM 8)) (bin2 mulD (callB sumD (consM (lcM [12, 13] (bTup (bCons (bName 12) (bCons (bName 13) (bNil)))) (pureM true) (bin2 mulD (varM 12) (bin2 fdivD (varM 8) (varM 13))) (seqM (varM 4))) (pureM []))) (bin2 ixD (callM F_total (consM (varM 4) (pureM []))) (pureM (.int 1)))))) fun k => if k then (thenS (pureM (.bl false)) fun d _ => some (.rt d)) else nxS) (ST s1 ps ss s5 s6 s7 (.val (.int (Lx ss 1))) s9 s10 s11 s12 s13) = some (.nx (ST s1 ps ss s5 s6 s7 (.val (.int (Lx ss 1))) s9 s10 s11 s12 s13)) := by
  obtain ⟨u0, u1, M', et, ⟨t1, t2, t3, t4, t5⟩, hM, k⟩ := e_total hq hn
  generalize hδ : ST s1 ps ss s5 s6 s7 (.val (.int (Lx ss 1))) s9 s10 s11 s12 s13 = δ at h12 h13 ⊢
  have v4 : varM 4 δ = some (.ok (.lst (ss.map fp)) δ) := by rw [← hδ]; rfl
  have v8 : δ[8]? = some (.val (.int (Lx ss 1))) := by rw [← hδ]; rfl
  have ln : δ.length = 15 := by rw [← hδ]; rfl
  have T := call_of (one_of v4) et
  have T0 : bin2 ixD (callM F_total (consM (varM 4) (pureM []))) (pureM (.int 0)) δ = some (.ok (.int u0) δ) := bin2_of T rfl rfl
  have T1 : bin2 ixD (callM F_total (consM (varM 4) (pureM []))) (pureM (.int 1)) δ = some (.ok (.int u1) δ) := bin2_of T rfl rfl
  have lc : lcM [12, 13] (bTup (bCons (bName 12) (bCons (bName 13) (bNil)))) (pureM true) (bin2 mulD (varM 12) (bin2 fdivD (varM 8) (varM 13))) (seqM (varM 4)) δ = some (.ok (.lst ((ss.map fun x => x.1 * (Lx ss 1 / x.2)).map .int)) δ) := by
    rw [lcM_map (g := fun d => match d with | .tup [.int t, .int l] => .int (t * (Lx ss 1 / l)) | _ => .non) (ds := ss.map fp) (δ1 := δ) (by unfold seqM; rw [bindM_ok v4]; rfl) (by rw [List.length_map]; omega) (by unfold noOwn; simp [h12, h13]) fun d hd => ?_]
    · rw [List.map_map, List.map_map]; rfl
    · obtain ⟨x, hx, rfl⟩ := List.mem_map.mp hd
      obtain ⟨q1, q2, q3, q4, _⟩ := hq x hx
      obtain ⟨δ1, e1, rfl, e2, e3⟩ := bind2 (u := 12) (v := 13) (x := .int x.1) (y := .int x.2) (δ := δ) (by decide)
      refine ⟨_, e1, e2, e3, ?_⟩
      have w12 : varM 12 ((δ.set 12 (.val (.int x.1))).set 13 (.val (.int x.2))) = some (.ok (.int x.1) ((δ.set 12 (.val (.int x.1))).set 13 (.val (.int x.2)))) := var_of (by rw [List.getElem?_set_ne (by decide), List.getElem?_set_self (by omega)])
      have w13 : varM 13 ((δ.set 12 (.val (.int x.1))).set 13 (.val (.int x.2))) = some (.ok (.int x.2) ((δ.set 12 (.val (.int x.1))).set 13 (.val (.int x.2)))) := var_of (by rw [List.getElem?_set_self (by simp; omega)])
      have w8 : varM 8 ((δ.set 12 (.val (.int x.1))).set 13 (.val (.int x.2))) = some (.ok (.int (Lx ss 1)) ((δ.set 12 (.val (.int x.1))).set 13 (.val (.int x.2)))) := var_of (by rw [List.getElem?_set_ne (by decide), List.getElem?_set_ne (by decide)]; exact v8)
      exact bin2_of w12 (bin2_of w8 w13 (fdiv_ok q1 (by omega))) (mul_ok (by omega))
  have sm : callB sumD (consM (lcM [12, 13] (bTup (bCons (bName 12) (bCons (bName 13) (bNil)))) (pureM true) (bin2 mulD (varM 12) (bin2 fdivD (varM 8) (varM 13))) (seqM (varM 4))) (pureM [])) δ = some (.ok (.int (Nx ss 1 0)) δ) := cb_of (one_of lc) (by
    rw [Nx_sum ss 1 0 fun x hx => (hq x hx).1, Lx_eq]
    unfold sumD
    dsimp only
    rw [intsOf_map]
    simp)
  exact if_no (ne_no (bin2_of T0 (var_of v8) (mul_ok (by omega))) (bin2_of sm T1 (mul_ok' (by omega))) (by rw [k]; exact eqr _))

def Ny (f : Fo) (δ : De) : Prop := ∃ δ', f δ = some (.nx δ') ∧ δ'.length = 15 ∧ ownAt δ' 14 = none
theorem ny_seq {f g : Fo} {δ : De} (δ' : De) (h : f δ = some (.nx δ')) (k : Ny g δ') : Ny (seqS f g) δ := by
  obtain ⟨x, hx, r⟩ := k
  exact ⟨x, by rw [seqS_nx h]; exact hx, r⟩
theorem bodyNy (x y z : Int) : Ny b_body (lawD 15 1 x y z) := by
  obtain ⟨ps, x1, y1, z1, l2, l6, hp, h0⟩ := st1 x y z
  have hs : ∀ s ∈ ps.map red, Q9 s := fun s h => by
    obtain ⟨p, hpm, rfl⟩ := List.mem_map.mp h
    exact (red_ok (hp p hpm)).2.1
  have hsl : (ps.map red).length = ps.length := List.length_map _
  have h1 := st2 (s1 := .own [.int x1, .int y1, .int z1]) hp l6 (fun _ _ => trivial)
  unfold b_body
  refine ny_seq [.un, .own [.int x1, .int y1, .int z1], .un, .val (.lst (ps.map fp)), .un, .un, .un, .un, .un, .un, .un, .un, .un, .un, .un] (by rw [thenS_ok h0]; rfl) ?_
  refine ny_seq (ST (.own [.int x1, .int y1, .int z1]) ps (ps.map red) .un .un .un .un .un .un .un .un .un) (by rw [thenS_ok h1]; rfl) ?_
  generalize hO : (Sl.own [.int x1, .int y1, .int z1]) = O
  have hO5 : ∀ s5 s6 s7 s8 s9 s10 s11 s12 s13, (ST O ps (ps.map red) s5 s6 s7 s8 s9 s10 s11 s12 s13).length = 15 := fun _ _ _ _ _ _ _ _ _ => rfl
  -- the loop over the places
  have i3 : itM rng1 (consM (callB lenD (consM (varM 3) (pureM []))) (pureM [])) (ST O ps (ps.map red) .un .un .un .un .un .un .un .un .un) = some (.ok (rangeL 0 ps.length) (ST O ps (ps.map red) .un .un .un .un .un .un .un .un .un)) :=
    itM_of (one_of (cb_of (d := .int ps.length) (one_of (var_of rfl)) (by show some (D.int ((ps.map fp).length : Nat)) = _; rw [List.length_map]))) (rng1_len (by omega))
  obtain ⟨δ3, e3, s5, rfl, n5⟩ := forD_inv (bd := bName 5) (f := ((seqS (thenS (tst (bin2 neD (bin2 mulD (bin2 ixD (bin2 ixD (varM 4) (varM 5)) (pureM (.int 0))) (bin2 ixD (bin2 ixD (varM 3) (varM 5)) (pureM (.int 1)))) (bin2 mulD (bin2 ixD (bin2 ixD (varM 3) (varM 5)) (pureM (.int 0))) (bin2 ixD (bin2 ixD (varM 4) (varM 5)) (pureM (.int 1)))))) fun k => if k then (thenS (pureM (.bl false)) fun d _ => some (.rt d)) else nxS) (seqS (thenS (tst (bin2 ltD (bin2 ixD (bin2 ixD (varM 4) (varM 5)) (pureM (.int 1))) (pureM (.int 1)))) fun k => if k then (thenS (pureM (.bl false)) fun d _ => some (.rt d)) else nxS) (seqS (thenS (andT (tst (bin2 neD (callM F_shared (consM (callB absD (consM (bin2 ixD (bin2 ixD (varM 4) (varM 5)) (pureM (.int 0))) (pureM []))) (consM (bin2 ixD (bin2 ixD (varM 4) (varM 5)) (pureM (.int 1))) (pureM [])))) (pureM (.int 1)))) (tst (bin2 neD (bin2 ixD (bin2 ixD (varM 4) (varM 5)) (pureM (.int 0))) (pureM (.int 0))))) fun k => if k then (thenS (pureM (.bl false)) fun d _ => some (.rt d)) else nxS) (thenS (tst (bin2 neD (callM F_part (consM (bin2 subD (pureM (.int 0)) (bin2 ixD (bin2 ixD (varM 3) (varM 5)) (pureM (.int 0)))) (consM (bin2 subD (pureM (.int 0)) (bin2 ixD (bin2 ixD (varM 3) (varM 5)) (pureM (.int 1)))) (pureM [])))) (bin2 ixD (varM 4) (varM 5)))) fun k => if k then (thenS (pureM (.bl false)) fun d _ => some (.rt d)) else nxS)))))) (J := fun δ => ∃ s5, δ = ST O ps (ps.map red) s5 .un .un .un .un .un .un .un .un ∧ NO s5) (rangeL 0 ps.length) (ST O ps (ps.map red) .un .un .un .un .un .un .un .un .un) (fun d hd δ ⟨s5, hδ, _⟩ => by
    obtain ⟨k, hk, rfl⟩ := rangeL_mem hd
    subst hδ
    refine ⟨ST O ps (ps.map red) (.val (.int (0 + k))) .un .un .un .un .un .un .un .un, _, rfl, st3 (p := ps.getD k dd) (s := (ps.map red).getD k dd) (hp _ (getD_mem hk)) (getD_red hk) ?_ ?_, _, rfl, fun _ z => by cases z⟩
    · exact bin2_of (var_of rfl) (var_of rfl) (by rw [Int.zero_add]; exact at_fp hk)
    · exact bin2_of (var_of rfl) (var_of rfl) (by rw [Int.zero_add]; exact at_fp (by omega))) ⟨_, rfl, fun _ z => by cases z⟩
  refine ny_seq _ (by rw [thenS_ok i3]; exact e3) ?_
  -- a and b
  have hA := hs _ (getD_mem (xs := ps.map red) (k := 0) (by omega))
  have hB := hs _ (getD_mem (xs := ps.map red) (k := 1) (by omega))
  have j0 : bin2 ixD (varM 4) (pureM (.int 0)) (ST O ps (ps.map red) s5 .un .un .un .un .un .un .un .un) = some (.ok (fp ((ps.map red).getD 0 dd)) (ST O ps (ps.map red) s5 .un .un .un .un .un .un .un .un)) := bin2_of (var_of rfl) rfl (at_fp (k := 0) (by omega))
  have j1 : bin2 ixD (varM 4) (pureM (.int 1)) (ST O ps (ps.map red) s5 .un .un .un .un .un .un .un .un) = some (.ok (fp ((ps.map red).getD 1 dd)) (ST O ps (ps.map red) s5 .un .un .un .un .un .un .un .un)) := bin2_of (var_of rfl) rfl (at_fp (k := 1) (by omega))
  generalize (ps.map red).getD 0 dd = A at hA j0
  generalize (ps.map red).getD 1 dd = B at hB j1
  refine ny_seq (ST O ps (ps.map red) s5 .un .un .un (.val (fp A)) (.val (fp B)) .un .un .un) (by rw [thenS_ok (cons_of j0 (one_of j1))]; rfl) ?_
  refine ny_seq _ (st5 hA hB rfl rfl) ?_
  obtain ⟨ds, e6, h6⟩ := st6i (δ := ST O ps (ps.map red) s5 .un .un .un (.val (fp A)) (.val (fp B)) .un .un .un) hA hB rfl rfl
  obtain ⟨δ6, g6, s6, rfl⟩ := forD_inv (bd := bName 6) (f := ((thenS (orT (tst (bin2 ltD (bin2 ixD (varM 6) (pureM (.int 1))) (pureM (.int 1)))) (orT (andT (tst (bin2 neD (bin2 ixD (varM 6) (pureM (.int 0))) (pureM (.int 0)))) (tst (bin2 neD (callM F_shared (consM (callB absD (consM (bin2 ixD (varM 6) (pureM (.int 0))) (pureM []))) (consM (bin2 ixD (varM 6) (pureM (.int 1))) (pureM [])))) (pureM (.int 1))))) (andT (tst (bin2 eqD (bin2 ixD (varM 6) (pureM (.int 0))) (pureM (.int 0)))) (tst (bin2 neD (bin2 ixD (varM 6) (pureM (.int 1))) (pureM (.int 1))))))) fun k => if k then (thenS (pureM (.bl false)) fun d _ => some (.rt d)) else nxS))) (J := fun δ => ∃ s6, δ = ST O ps (ps.map red) s5 s6 .un .un (.val (fp A)) (.val (fp B)) .un .un .un) ds (ST O ps (ps.map red) s5 .un .un .un (.val (fp A)) (.val (fp B)) .un .un .un) (fun d hd δ ⟨s6, hδ⟩ => by
    subst hδ
    obtain ⟨p, q, N, rfl, hq⟩ := h6 d hd
    exact ⟨ST O ps (ps.map red) s5 (.val (fr p q)) .un .un (.val (fp A)) (.val (fp B)) .un .un .un, _, rfl, one_ok hq rfl, _, rfl⟩) ⟨_, rfl⟩
  refine ny_seq _ (by rw [thenS_ok e6]; exact g6) ?_
  refine ny_seq _ (st7 hA hB rfl rfl) ?_
  refine ny_seq _ (st8 hA hB rfl rfl) ?_
  obtain ⟨s11, h9⟩ := st9 (δ := ST O ps (ps.map red) s5 s6 .un .un (.val (fp A)) (.val (fp B)) .un .un .un) hA hB rfl rfl (fun _ => rfl) (fun _ => rfl) (fun _ => rfl)
  obtain ⟨s11, h9⟩ : ∃ s11, (thenS (tst (bin2 gtD (bin2 ixD (varM 10) (pureM (.int 0))) (pureM (.int 0)))) fun k => if k then (seqS (thenS (callM F_rest_by (consM (varM 9) (consM (varM 10) (pureM [])))) fun d δ => some (.nx (δ.set 11 (.val d)))) (thenS (orT (tst (bin2 ltD (bin2 ixD (varM 11) (pureM (.int 0))) (pureM (.int 0)))) (orT (bindM (tst (callM F_is_less (consM (varM 11) (consM (varM 10) (pureM []))))) fun k => pureM (!k)) (tst (bin2 neD (bin2 ixD (callM F_by (consM (callM F_minus (consM (varM 9) (consM (varM 11) (pureM [])))) (consM (varM 10) (pureM [])))) (pureM (.int 1))) (pureM (.int 1)))))) fun k => if k then (thenS (pureM (.bl false)) fun d _ => some (.rt d)) else nxS)) else nxS) (ST O ps (ps.map red) s5 s6 .un .un (.val (fp A)) (.val (fp B)) .un .un .un) = some (.nx (ST O ps (ps.map red) s5 s6 .un .un (.val (fp A)) (.val (fp B)) s11 .un .un)) := by
    rcases h9 with h9 | h9
    · exact ⟨s11, h9⟩
    · exact ⟨.un, h9⟩
  refine ny_seq _ h9 ?_
  obtain ⟨zs, ez, pz, az⟩ := e_in_order hs (by omega)
  have ez2 : callM F_in_order (consM (varM 4) (pureM [])) (ST O ps (ps.map red) s5 s6 .un .un (.val (fp A)) (.val (fp B)) s11 .un .un) = some (.ok (.tup (zs.map fp)) (ST O ps (ps.map red) s5 s6 .un .un (.val (fp A)) (.val (fp B)) s11 .un .un)) := call_of (one_of (var_of rfl)) ez
  refine ny_seq (ST O ps (ps.map red) s5 s6 (.val (.tup (zs.map fp))) .un (.val (fp A)) (.val (fp B)) s11 .un .un) (by rw [thenS_ok ez2]; rfl) ?_
  refine ny_seq _ (st10 (zs := zs) (ss := ps.map red) rfl rfl rfl (own_no rfl n5) pz az hs (by omega)) ?_
  refine ny_seq (ST O ps (ps.map red) s5 s6 (.val (.tup (zs.map fp))) (.val (.int 1)) (.val (fp A)) (.val (fp B)) s11 .un .un) rfl ?_
  obtain ⟨s12, s13, n12, n13, el⟩ := low_loop (s1 := O) (s5 := s5) (s6 := s6) (s7 := .val (.tup (zs.map fp))) (s9 := .val (fp A)) (s10 := .val (fp B)) (s11 := s11) (ps := ps) (ss := ps.map red) (ps.map red) 1 .un .un hs (fun _ z => by cases z) (fun _ z => by cases z)
  have ei : seqM (varM 4) (ST O ps (ps.map red) s5 s6 (.val (.tup (zs.map fp))) (.val (.int 1)) (.val (fp A)) (.val (fp B)) s11 .un .un) = some (.ok ((ps.map red).map fp) (ST O ps (ps.map red) s5 s6 (.val (.tup (zs.map fp))) (.val (.int 1)) (.val (fp A)) (.val (fp B)) s11 .un .un)) := rfl
  refine ny_seq _ (by rw [thenS_ok ei]; exact el) ?_
  exact ⟨_, st13 hs (by omega) (own_no rfl n12) (own_no rfl n13), rfl, rfl⟩
theorem fin (x y z : Int) : ∃ δ', b_body (lawD 15 1 x y z) = some (.nx δ') ∧ b_rest δ' = some (.rt (.bl true)) := by
  obtain ⟨δ', h, h1, h2⟩ := bodyNy x y z
  exact ⟨δ', h, rest_ok δ' h1 h2⟩

theorem sc__law_told : FnScope ["what"] ["what"] (defScope s__law_told) := ⟨rfl, rfl, rfl, by decide +kernel, rfl, by decide +kernel, by decide +kernel⟩
set_option maxHeartbeats 8000000 in
theorem all_mk {P : Program} {w : World} {K : PySem.W.Frag} {h : Heap} {mg : Str → Option Value} {fa C Pt : Addr} (X : K.In h) (G : h.Ns mainGlobals mg) (hfa : mg "law" = some (.ref fa))
    {f_shared : Addr} {od_shared an_shared : Option Addr} {sl_shared : Array (Option Value)} {oc_shared kV_shared dc_shared pm_shared cd_shared ct_shared : Value}
    {f_part : Addr} {od_part an_part : Option Addr} {sl_part : Array (Option Value)} {oc_part kV_part dc_part pm_part cd_part ct_part : Value}
    {T_part : Addr} {wo_part : Option Addr} {wc_part : Value} {wi_part : Array Value} {wn_part : Nat} {ws_part : Array (Option Value)}
    {f_plus : Addr} {od_plus an_plus : Option Addr} {sl_plus : Array (Option Value)} {oc_plus kV_plus dc_plus pm_plus cd_plus ct_plus : Value}
    {f_minus : Addr} {od_minus an_minus : Option Addr} {sl_minus : Array (Option Value)} {oc_minus kV_minus dc_minus pm_minus cd_minus ct_minus : Value}
    {f_times : Addr} {od_times an_times : Option Addr} {sl_times : Array (Option Value)} {oc_times kV_times dc_times pm_times cd_times ct_times : Value}
    {f_by : Addr} {od_by an_by : Option Addr} {sl_by : Array (Option Value)} {oc_by kV_by dc_by pm_by cd_by ct_by : Value}
    {f_is_less : Addr} {od_is_less an_is_less : Option Addr} {sl_is_less : Array (Option Value)} {oc_is_less kV_is_less dc_is_less pm_is_less cd_is_less ct_is_less : Value}
    {f_least : Addr} {od_least an_least : Option Addr} {sl_least : Array (Option Value)} {oc_least kV_least dc_least pm_least cd_least ct_least : Value}
    {f_greatest : Addr} {od_greatest an_greatest : Option Addr} {sl_greatest : Array (Option Value)} {oc_greatest kV_greatest dc_greatest pm_greatest cd_greatest ct_greatest : Value}
    {f_whole_below : Addr} {od_whole_below an_whole_below : Option Addr} {sl_whole_below : Array (Option Value)} {oc_whole_below kV_whole_below dc_whole_below pm_whole_below cd_whole_below ct_whole_below : Value}
    {f_total : Addr} {od_total an_total : Option Addr} {sl_total : Array (Option Value)} {oc_total kV_total dc_total pm_total cd_total ct_total : Value}
    {f_rest_by : Addr} {od_rest_by an_rest_by : Option Addr} {sl_rest_by : Array (Option Value)} {oc_rest_by kV_rest_by dc_rest_by pm_rest_by cd_rest_by ct_rest_by : Value}
    {f_in_order : Addr} {od_in_order an_in_order : Option Addr} {sl_in_order : Array (Option Value)} {oc_in_order kV_in_order dc_in_order pm_in_order cd_in_order ct_in_order : Value}
    {f_check_length : Addr} {od_check_length an_check_length : Option Addr} {sl_check_length : Array (Option Value)} {oc_check_length kV_check_length dc_check_length pm_check_length cd_check_length ct_check_length : Value}
    {f__law_dice : Addr} {od__law_dice an__law_dice : Option Addr} {sl__law_dice : Array (Option Value)} {oc__law_dice kV__law_dice dc__law_dice pm__law_dice cd__law_dice ct__law_dice : Value}
    {f__law_less : Addr} {od__law_less an__law_less : Option Addr} {sl__law_less : Array (Option Value)} {oc__law_less kV__law_less dc__law_less pm__law_less cd__law_less ct__law_less : Value}
    {f__law_roll : Addr} {od__law_roll an__law_roll : Option Addr} {sl__law_roll : Array (Option Value)} {oc__law_roll kV__law_roll dc__law_roll pm__law_roll cd__law_roll ct__law_roll : Value}
    {f__law_rounds : Addr} {od__law_rounds an__law_rounds : Option Addr} {sl__law_rounds : Array (Option Value)} {oc__law_rounds kV__law_rounds dc__law_rounds pm__law_rounds cd__law_rounds ct__law_rounds : Value}
    {f__law_told : Addr} {od__law_told an__law_told : Option Addr} {sl__law_told : Array (Option Value)} {oc__law_told kV__law_told dc__law_told pm__law_told cd__law_told ct__law_told : Value}
    {f_law : Addr} {od_law an_law : Option Addr} {sl_law : Array (Option Value)} {oc_law kV_law dc_law pm_law ct_law : Value}
    {C_BadNote : Addr}
    {C_BadTime : Addr}
    {C_BadLine : Addr}
    {C_NoLine : Addr}
    {C_BadPaper : Addr}
    {C_BadSize : Addr}
    {C_BadText : Addr}
    {C_BadStore : Addr}
    {C_NoSuch : Addr}
    (a_shared : PySem.W.nsIn K mainGlobals "shared" = some (some (.ref f_shared)))
    (l_shared : K.lookup f_shared = some ⟨oc_shared, od_shared, .func (PySem.W.fnOf "shared" "shared" (defArgs s_shared) (defBody s_shared) (defScope s_shared) .none kV_shared dc_shared pm_shared an_shared cd_shared ct_shared), sl_shared⟩)
    (e_shared : PySem.W.codeIn K cd_shared "shared" = true)
    (k_shared : PySem.W.keepIn K (.ref f_shared) = true)
    (a_part : PySem.W.nsIn K mainGlobals "part" = some (some (.ref f_part)))
    (l_part : K.lookup f_part = some ⟨oc_part, od_part, .func (PySem.W.fnOf "part" "part" (defArgs s_part) (defBody s_part) (defScope s_part) (.ref T_part) kV_part dc_part pm_part an_part cd_part ct_part), sl_part⟩)
    (e_part : PySem.W.codeIn K cd_part "part" = true)
    (k_part : PySem.W.keepIn K (.ref f_part) = true)
    (t_part : K.lookup T_part = some ⟨wc_part, wo_part, .seq wi_part wn_part, ws_part⟩)
    (w_part : Vals [V.int 1] wi_part.toList)
    (a_plus : PySem.W.nsIn K mainGlobals "plus" = some (some (.ref f_plus)))
    (l_plus : K.lookup f_plus = some ⟨oc_plus, od_plus, .func (PySem.W.fnOf "plus" "plus" (defArgs s_plus) (defBody s_plus) (defScope s_plus) .none kV_plus dc_plus pm_plus an_plus cd_plus ct_plus), sl_plus⟩)
    (e_plus : PySem.W.codeIn K cd_plus "plus" = true)
    (k_plus : PySem.W.keepIn K (.ref f_plus) = true)
    (a_minus : PySem.W.nsIn K mainGlobals "minus" = some (some (.ref f_minus)))
    (l_minus : K.lookup f_minus = some ⟨oc_minus, od_minus, .func (PySem.W.fnOf "minus" "minus" (defArgs s_minus) (defBody s_minus) (defScope s_minus) .none kV_minus dc_minus pm_minus an_minus cd_minus ct_minus), sl_minus⟩)
    (e_minus : PySem.W.codeIn K cd_minus "minus" = true)
    (k_minus : PySem.W.keepIn K (.ref f_minus) = true)
    (a_times : PySem.W.nsIn K mainGlobals "times" = some (some (.ref f_times)))
    (l_times : K.lookup f_times = some ⟨oc_times, od_times, .func (PySem.W.fnOf "times" "times" (defArgs s_times) (defBody s_times) (defScope s_times) .none kV_times dc_times pm_times an_times cd_times ct_times), sl_times⟩)
    (e_times : PySem.W.codeIn K cd_times "times" = true)
    (k_times : PySem.W.keepIn K (.ref f_times) = true)
    (a_by : PySem.W.nsIn K mainGlobals "by" = some (some (.ref f_by)))
    (l_by : K.lookup f_by = some ⟨oc_by, od_by, .func (PySem.W.fnOf "by" "by" (defArgs s_by) (defBody s_by) (defScope s_by) .none kV_by dc_by pm_by an_by cd_by ct_by), sl_by⟩)
    (e_by : PySem.W.codeIn K cd_by "by" = true)
    (k_by : PySem.W.keepIn K (.ref f_by) = true)
    (a_is_less : PySem.W.nsIn K mainGlobals "is_less" = some (some (.ref f_is_less)))
    (l_is_less : K.lookup f_is_less = some ⟨oc_is_less, od_is_less, .func (PySem.W.fnOf "is_less" "is_less" (defArgs s_is_less) (defBody s_is_less) (defScope s_is_less) .none kV_is_less dc_is_less pm_is_less an_is_less cd_is_less ct_is_less), sl_is_less⟩)
    (e_is_less : PySem.W.codeIn K cd_is_less "is_less" = true)
    (k_is_less : PySem.W.keepIn K (.ref f_is_less) = true)
    (a_least : PySem.W.nsIn K mainGlobals "least" = some (some (.ref f_least)))
    (l_least : K.lookup f_least = some ⟨oc_least, od_least, .func (PySem.W.fnOf "least" "least" (defArgs s_least) (defBody s_least) (defScope s_least) .none kV_least dc_least pm_least an_least cd_least ct_least), sl_least⟩)
    (e_least : PySem.W.codeIn K cd_least "least" = true)
    (k_least : PySem.W.keepIn K (.ref f_least) = true)
    (a_greatest : PySem.W.nsIn K mainGlobals "greatest" = some (some (.ref f_greatest)))
    (l_greatest : K.lookup f_greatest = some ⟨oc_greatest, od_greatest, .func (PySem.W.fnOf "greatest" "greatest" (defArgs s_greatest) (defBody s_greatest) (defScope s_greatest) .none kV_greatest dc_greatest pm_greatest an_greatest cd_greatest ct_greatest), sl_greatest⟩)
    (e_greatest : PySem.W.codeIn K cd_greatest "greatest" = true)
    (k_greatest : PySem.W.keepIn K (.ref f_greatest) = true)
    (a_whole_below : PySem.W.nsIn K mainGlobals "whole_below" = some (some (.ref f_whole_below)))
    (l_whole_below : K.lookup f_whole_below = some ⟨oc_whole_below, od_whole_below, .func (PySem.W.fnOf "whole_below" "whole_below" (defArgs s_whole_below) (defBody s_whole_below) (defScope s_whole_below) .none kV_whole_below dc_whole_below pm_whole_below an_whole_below cd_whole_below ct_whole_below), sl_whole_below⟩)
    (e_whole_below : PySem.W.codeIn K cd_whole_below "whole_below" = true)
    (k_whole_below : PySem.W.keepIn K (.ref f_whole_below) = true)
    (a_total : PySem.W.nsIn K mainGlobals "total" = some (some (.ref f_total)))
    (l_total : K.lookup f_total = some ⟨oc_total, od_total, .func (PySem.W.fnOf "total" "total" (defArgs s_total) (defBody s_total) (defScope s_total) .none kV_total dc_total pm_total an_total cd_total ct_total), sl_total⟩)
    (e_total : PySem.W.codeIn K cd_total "total" = true)
    (k_total : PySem.W.keepIn K (.ref f_total) = true)
    (a_rest_by : PySem.W.nsIn K mainGlobals "rest_by" = some (some (.ref f_rest_by)))
    (l_rest_by : K.lookup f_rest_by = some ⟨oc_rest_by, od_rest_by, .func (PySem.W.fnOf "rest_by" "rest_by" (defArgs s_rest_by) (defBody s_rest_by) (defScope s_rest_by) .none kV_rest_by dc_rest_by pm_rest_by an_rest_by cd_rest_by ct_rest_by), sl_rest_by⟩)
    (e_rest_by : PySem.W.codeIn K cd_rest_by "rest_by" = true)
    (k_rest_by : PySem.W.keepIn K (.ref f_rest_by) = true)
    (a_in_order : PySem.W.nsIn K mainGlobals "in_order" = some (some (.ref f_in_order)))
    (l_in_order : K.lookup f_in_order = some ⟨oc_in_order, od_in_order, .func (PySem.W.fnOf "in_order" "in_order" (defArgs s_in_order) (defBody s_in_order) (defScope s_in_order) .none kV_in_order dc_in_order pm_in_order an_in_order cd_in_order ct_in_order), sl_in_order⟩)
    (e_in_order : PySem.W.codeIn K cd_in_order "in_order" = true)
    (k_in_order : PySem.W.keepIn K (.ref f_in_order) = true)
    (a_check_length : PySem.W.nsIn K mainGlobals "check_length" = some (some (.ref f_check_length)))
    (l_check_length : K.lookup f_check_length = some ⟨oc_check_length, od_check_length, .func (PySem.W.fnOf "check_length" "check_length" (defArgs s_check_length) (defBody s_check_length) (defScope s_check_length) .none kV_check_length dc_check_length pm_check_length an_check_length cd_check_length ct_check_length), sl_check_length⟩)
    (e_check_length : PySem.W.codeIn K cd_check_length "check_length" = true)
    (k_check_length : PySem.W.keepIn K (.ref f_check_length) = true)
    (a__law_dice : PySem.W.nsIn K mainGlobals "_law_dice" = some (some (.ref f__law_dice)))
    (l__law_dice : K.lookup f__law_dice = some ⟨oc__law_dice, od__law_dice, .func (PySem.W.fnOf "_law_dice" "_law_dice" (defArgs s__law_dice) (defBody s__law_dice) (defScope s__law_dice) .none kV__law_dice dc__law_dice pm__law_dice an__law_dice cd__law_dice ct__law_dice), sl__law_dice⟩)
    (e__law_dice : PySem.W.codeIn K cd__law_dice "_law_dice" = true)
    (k__law_dice : PySem.W.keepIn K (.ref f__law_dice) = true)
    (a__law_less : PySem.W.nsIn K mainGlobals "_law_less" = some (some (.ref f__law_less)))
    (l__law_less : K.lookup f__law_less = some ⟨oc__law_less, od__law_less, .func (PySem.W.fnOf "_law_less" "_law_less" (defArgs s__law_less) (defBody s__law_less) (defScope s__law_less) .none kV__law_less dc__law_less pm__law_less an__law_less cd__law_less ct__law_less), sl__law_less⟩)
    (e__law_less : PySem.W.codeIn K cd__law_less "_law_less" = true)
    (k__law_less : PySem.W.keepIn K (.ref f__law_less) = true)
    (a__law_roll : PySem.W.nsIn K mainGlobals "_law_roll" = some (some (.ref f__law_roll)))
    (l__law_roll : K.lookup f__law_roll = some ⟨oc__law_roll, od__law_roll, .func (PySem.W.fnOf "_law_roll" "_law_roll" (defArgs s__law_roll) (defBody s__law_roll) (defScope s__law_roll) .none kV__law_roll dc__law_roll pm__law_roll an__law_roll cd__law_roll ct__law_roll), sl__law_roll⟩)
    (e__law_roll : PySem.W.codeIn K cd__law_roll "_law_roll" = true)
    (k__law_roll : PySem.W.keepIn K (.ref f__law_roll) = true)
    (a__law_rounds : PySem.W.nsIn K mainGlobals "_law_rounds" = some (some (.ref f__law_rounds)))
    (l__law_rounds : K.lookup f__law_rounds = some ⟨oc__law_rounds, od__law_rounds, .func (PySem.W.fnOf "_law_rounds" "_law_rounds" (defArgs s__law_rounds) (defBody s__law_rounds) (defScope s__law_rounds) .none kV__law_rounds dc__law_rounds pm__law_rounds an__law_rounds cd__law_rounds ct__law_rounds), sl__law_rounds⟩)
    (e__law_rounds : PySem.W.codeIn K cd__law_rounds "_law_rounds" = true)
    (k__law_rounds : PySem.W.keepIn K (.ref f__law_rounds) = true)
    (a__law_told : PySem.W.nsIn K mainGlobals "_law_told" = some (some (.ref f__law_told)))
    (l__law_told : K.lookup f__law_told = some ⟨oc__law_told, od__law_told, .func (PySem.W.fnOf "_law_told" "_law_told" (defArgs s__law_told) (defBody s__law_told) (defScope s__law_told) .none kV__law_told dc__law_told pm__law_told an__law_told cd__law_told ct__law_told), sl__law_told⟩)
    (e__law_told : PySem.W.codeIn K cd__law_told "_law_told" = true)
    (k__law_told : PySem.W.keepIn K (.ref f__law_told) = true)
    (a_law : PySem.W.nsIn K mainGlobals "law" = some (some (.ref f_law)))
    (l_law : K.lookup f_law = some ⟨oc_law, od_law, .func (PySem.W.fnOf "law" "law" (defArgs s_law) (defBody s_law) (defScope s_law) .none kV_law dc_law pm_law an_law (.ref C) ct_law), sl_law⟩)
    (e_law : PySem.W.codeIn K (.ref C) "law" = true)
    (k_law : PySem.W.keepIn K (.ref f_law) = true)
    (z_abs : PySem.W.nsIn K mainGlobals "abs" = some none)
    (z_int : PySem.W.nsIn K mainGlobals "int" = some none)
    (z_len : PySem.W.nsIn K mainGlobals "len" = some none)
    (z_range : PySem.W.nsIn K mainGlobals "range" = some none)
    (z_sorted : PySem.W.nsIn K mainGlobals "sorted" = some none)
    (z_sum : PySem.W.nsIn K mainGlobals "sum" = some none)
    (z_tuple : PySem.W.nsIn K mainGlobals "tuple" = some none)
    (y_gcd : PySem.W.nsIn K mainGlobals "gcd" = some (some (.builtin "math.gcd")))
    (aX_BadNote : PySem.W.nsIn K mainGlobals "BadNote" = some (some (.ref C_BadNote)))
    (x_BadNote : PySem.W.excIn K C_BadNote [.type "ValueError", .type "Exception", .type "BaseException", .type "object"] "ValueError.__new__" = true)
    (kX_BadNote : PySem.W.keepIn K (.ref C_BadNote) = true)
    (bX_BadNote : PySem.W.subIn K (.ref C_BadNote) (.type "BaseException") = some true)
    (tX_BadNote : PySem.W.typeIn K (.ref C_BadNote) = some (.type "type"))
    (aX_BadTime : PySem.W.nsIn K mainGlobals "BadTime" = some (some (.ref C_BadTime)))
    (x_BadTime : PySem.W.excIn K C_BadTime [.type "ValueError", .type "Exception", .type "BaseException", .type "object"] "ValueError.__new__" = true)
    (kX_BadTime : PySem.W.keepIn K (.ref C_BadTime) = true)
    (bX_BadTime : PySem.W.subIn K (.ref C_BadTime) (.type "BaseException") = some true)
    (tX_BadTime : PySem.W.typeIn K (.ref C_BadTime) = some (.type "type"))
    (aX_BadLine : PySem.W.nsIn K mainGlobals "BadLine" = some (some (.ref C_BadLine)))
    (x_BadLine : PySem.W.excIn K C_BadLine [.type "ValueError", .type "Exception", .type "BaseException", .type "object"] "ValueError.__new__" = true)
    (kX_BadLine : PySem.W.keepIn K (.ref C_BadLine) = true)
    (bX_BadLine : PySem.W.subIn K (.ref C_BadLine) (.type "BaseException") = some true)
    (tX_BadLine : PySem.W.typeIn K (.ref C_BadLine) = some (.type "type"))
    (aX_NoLine : PySem.W.nsIn K mainGlobals "NoLine" = some (some (.ref C_NoLine)))
    (x_NoLine : PySem.W.excIn K C_NoLine [.type "ValueError", .type "Exception", .type "BaseException", .type "object"] "ValueError.__new__" = true)
    (kX_NoLine : PySem.W.keepIn K (.ref C_NoLine) = true)
    (bX_NoLine : PySem.W.subIn K (.ref C_NoLine) (.type "BaseException") = some true)
    (tX_NoLine : PySem.W.typeIn K (.ref C_NoLine) = some (.type "type"))
    (aX_BadPaper : PySem.W.nsIn K mainGlobals "BadPaper" = some (some (.ref C_BadPaper)))
    (x_BadPaper : PySem.W.excIn K C_BadPaper [.type "ValueError", .type "Exception", .type "BaseException", .type "object"] "ValueError.__new__" = true)
    (kX_BadPaper : PySem.W.keepIn K (.ref C_BadPaper) = true)
    (bX_BadPaper : PySem.W.subIn K (.ref C_BadPaper) (.type "BaseException") = some true)
    (tX_BadPaper : PySem.W.typeIn K (.ref C_BadPaper) = some (.type "type"))
    (aX_BadSize : PySem.W.nsIn K mainGlobals "BadSize" = some (some (.ref C_BadSize)))
    (x_BadSize : PySem.W.excIn K C_BadSize [.type "ValueError", .type "Exception", .type "BaseException", .type "object"] "ValueError.__new__" = true)
    (kX_BadSize : PySem.W.keepIn K (.ref C_BadSize) = true)
    (bX_BadSize : PySem.W.subIn K (.ref C_BadSize) (.type "BaseException") = some true)
    (tX_BadSize : PySem.W.typeIn K (.ref C_BadSize) = some (.type "type"))
    (aX_BadText : PySem.W.nsIn K mainGlobals "BadText" = some (some (.ref C_BadText)))
    (x_BadText : PySem.W.excIn K C_BadText [.type "ValueError", .type "Exception", .type "BaseException", .type "object"] "ValueError.__new__" = true)
    (kX_BadText : PySem.W.keepIn K (.ref C_BadText) = true)
    (bX_BadText : PySem.W.subIn K (.ref C_BadText) (.type "BaseException") = some true)
    (tX_BadText : PySem.W.typeIn K (.ref C_BadText) = some (.type "type"))
    (aX_BadStore : PySem.W.nsIn K mainGlobals "BadStore" = some (some (.ref C_BadStore)))
    (x_BadStore : PySem.W.excIn K C_BadStore [.type "ValueError", .type "Exception", .type "BaseException", .type "object"] "ValueError.__new__" = true)
    (kX_BadStore : PySem.W.keepIn K (.ref C_BadStore) = true)
    (bX_BadStore : PySem.W.subIn K (.ref C_BadStore) (.type "BaseException") = some true)
    (tX_BadStore : PySem.W.typeIn K (.ref C_BadStore) = some (.type "type"))
    (aX_NoSuch : PySem.W.nsIn K mainGlobals "NoSuch" = some (some (.ref C_NoSuch)))
    (x_NoSuch : PySem.W.excIn K C_NoSuch [.type "ValueError", .type "Exception", .type "BaseException", .type "object"] "ValueError.__new__" = true)
    (kX_NoSuch : PySem.W.keepIn K (.ref C_NoSuch) = true)
    (bX_NoSuch : PySem.W.subIn K (.ref C_NoSuch) (.type "BaseException") = some true)
    (tX_NoSuch : PySem.W.typeIn K (.ref C_NoSuch) = some (.type "type"))
    (exm : exmAll K (fun n => ([0, C_BadNote, C_BadTime, C_BadLine, C_NoLine, C_BadPaper, C_BadSize, C_BadText, C_BadStore, C_NoSuch] : List Addr).getD n 0) (NL.map (·.1)) = true) :
    ∃ fd : FuncData, (∀ (s : Shared) (v : Value), BindsTo s fd ⟨[v], []⟩ [("script", v)]) ∧ ∀ base : Heap, K.In base → base.Ns mainGlobals mg → LamX.TabB base mg C Pt → FnOk P w K mg base (L2.CX P w) 9 fa fd ["script"] (spLaw K [(Pt, (("law" : Str) ++ (".<locals>." : Str)) ++ "<lambda>")]) := by
  have e := hfa.symm.trans (PySem.W.mg_of X G a_law)
  cases e
  have Fn_shared := fun_mk (st := s_shared) l_shared e_shared k_shared
  have bn_shared := Fn_shared.binds (ps := ["one", "other"]) fun _ _ _ _ _ _ us hl => match us, hl with | [_, _], _ => rfl
  have Fn_part := funD_mk (st := s_part) (dvs := [V.int 1]) (by simp) l_part e_part k_part t_part w_part
  obtain ⟨dn_part, hz_part, bn_part⟩ := Fn_part.binds1 (ps := ["top", "low"]) 2 1 (by simp) rfl (fun T kV doc pm an cdv ct us its h1 h2 => match us, h1, its, h2 with | [_, _], _, [_], _ => ⟨_, rfl, rfl⟩)
  have hz2_part := vals_nil hz_part
  subst hz2_part
  obtain ⟨df_part, hv_part, bf_part⟩ := Fn_part.binds1 (ps := ["top", "low"]) 1 0 (by simp) rfl (fun T kV doc pm an cdv ct us its h1 h2 => match us, h1, its, h2 with | [_], _, [_], _ => ⟨_, rfl, rfl⟩)
  have Fn_plus := fun_mk (st := s_plus) l_plus e_plus k_plus
  have bn_plus := Fn_plus.binds (ps := ["one", "other"]) fun _ _ _ _ _ _ us hl => match us, hl with | [_, _], _ => rfl
  have Fn_minus := fun_mk (st := s_minus) l_minus e_minus k_minus
  have bn_minus := Fn_minus.binds (ps := ["one", "other"]) fun _ _ _ _ _ _ us hl => match us, hl with | [_, _], _ => rfl
  have Fn_times := fun_mk (st := s_times) l_times e_times k_times
  have bn_times := Fn_times.binds (ps := ["one", "other"]) fun _ _ _ _ _ _ us hl => match us, hl with | [_, _], _ => rfl
  have Fn_by := fun_mk (st := s_by) l_by e_by k_by
  have bn_by := Fn_by.binds (ps := ["one", "other"]) fun _ _ _ _ _ _ us hl => match us, hl with | [_, _], _ => rfl
  have Fn_is_less := fun_mk (st := s_is_less) l_is_less e_is_less k_is_less
  have bn_is_less := Fn_is_less.binds (ps := ["one", "other"]) fun _ _ _ _ _ _ us hl => match us, hl with | [_, _], _ => rfl
  have Fn_least := fun_mk (st := s_least) l_least e_least k_least
  have bn_least := Fn_least.binds (ps := ["one", "other"]) fun _ _ _ _ _ _ us hl => match us, hl with | [_, _], _ => rfl
  have Fn_greatest := fun_mk (st := s_greatest) l_greatest e_greatest k_greatest
  have bn_greatest := Fn_greatest.binds (ps := ["one", "other"]) fun _ _ _ _ _ _ us hl => match us, hl with | [_, _], _ => rfl
  have Fn_whole_below := fun_mk (st := s_whole_below) l_whole_below e_whole_below k_whole_below
  have bn_whole_below := Fn_whole_below.binds (ps := ["one"]) fun _ _ _ _ _ _ us hl => match us, hl with | [_], _ => rfl
  have Fn_total := fun_mk (st := s_total) l_total e_total k_total
  have bn_total := Fn_total.binds (ps := ["parts"]) fun _ _ _ _ _ _ us hl => match us, hl with | [_], _ => rfl
  have Fn_rest_by := fun_mk (st := s_rest_by) l_rest_by e_rest_by k_rest_by
  have bn_rest_by := Fn_rest_by.binds (ps := ["one", "other"]) fun _ _ _ _ _ _ us hl => match us, hl with | [_, _], _ => rfl
  have Fn_in_order := fun_mk (st := s_in_order) l_in_order e_in_order k_in_order
  have bn_in_order := Fn_in_order.binds (ps := ["parts"]) fun _ _ _ _ _ _ us hl => match us, hl with | [_], _ => rfl
  have Fn_check_length := fun_mk (st := s_check_length) l_check_length e_check_length k_check_length
  have bn_check_length := Fn_check_length.binds (ps := ["one"]) fun _ _ _ _ _ _ us hl => match us, hl with | [_], _ => rfl
  have Fn__law_dice := fun_mk (st := s__law_dice) l__law_dice e__law_dice k__law_dice
  have bn__law_dice := Fn__law_dice.binds (ps := ["cell"]) fun _ _ _ _ _ _ us hl => match us, hl with | [_], _ => rfl
  have Fn__law_less := fun_mk (st := s__law_less) l__law_less e__law_less k__law_less
  have bn__law_less := Fn__law_less.binds (ps := ["one", "other"]) fun _ _ _ _ _ _ us hl => match us, hl with | [_, _], _ => rfl
  have Fn__law_roll := fun_mk (st := s__law_roll) l__law_roll e__law_roll k__law_roll
  have bn__law_roll := Fn__law_roll.binds (ps := ["dice", "many"]) fun _ _ _ _ _ _ us hl => match us, hl with | [_, _], _ => rfl
  have Fn__law_rounds := fun_mk (st := s__law_rounds) l__law_rounds e__law_rounds k__law_rounds
  have bn__law_rounds := Fn__law_rounds.binds (ps := ["script", "most"]) fun _ _ _ _ _ _ us hl => match us, hl with | [_, _], _ => rfl
  have Fn__law_told := fun_mk (st := s__law_told) l__law_told e__law_told k__law_told
  have bn__law_told := Fn__law_told.binds (ps := ["what"]) fun _ _ _ _ _ _ us hl => match us, hl with | [_], _ => rfl
  have TT : TX K mg (fun n => ([0, C_BadNote, C_BadTime, C_BadLine, C_NoLine, C_BadPaper, C_BadSize, C_BadText, C_BadStore, C_NoSuch] : List Addr).getD n 0) := ⟨PySem.W.mg_none_of X G z_abs, PySem.W.mg_none_of X G z_int, PySem.W.mg_none_of X G z_len, PySem.W.mg_none_of X G z_range, PySem.W.mg_none_of X G z_sorted, PySem.W.mg_none_of X G z_sum, PySem.W.mg_none_of X G z_tuple, PySem.W.mg_of X G y_gcd, ⟨PySem.W.mg_of X G aX_BadTime, x_BadTime, kX_BadTime, bX_BadTime, tX_BadTime⟩⟩
  refine ⟨PySem.W.fnOf "law" "law" (defArgs s_law) (defBody s_law) (defScope s_law) .none kV_law dc_law pm_law an_law (.ref C) ct_law, fun s v => .of_eq rfl, fun base _ _ tb => ?_⟩
  have d_shared := fn_shared (P := P) (w := w) (base := base) TT  Fn_shared (PySem.W.mg_of X G a_shared) bn_shared
  have d_part := fn_part (P := P) (w := w) (base := base) TT d_shared Fn_part (PySem.W.mg_of X G a_part) bn_part
  have e_part := fnf_part (P := P) (w := w) (base := base) TT d_shared Fn_part (PySem.W.mg_of X G a_part) bf_part hv_part
  have d_plus := fn_plus (P := P) (w := w) (base := base) TT d_part Fn_plus (PySem.W.mg_of X G a_plus) bn_plus
  have d_minus := fn_minus (P := P) (w := w) (base := base) TT d_plus Fn_minus (PySem.W.mg_of X G a_minus) bn_minus
  have d_times := fn_times (P := P) (w := w) (base := base) TT d_part Fn_times (PySem.W.mg_of X G a_times) bn_times
  have d_by := fn_by (P := P) (w := w) (base := base) TT d_part Fn_by (PySem.W.mg_of X G a_by) bn_by
  have d_is_less := fn_is_less (P := P) (w := w) (base := base) TT  Fn_is_less (PySem.W.mg_of X G a_is_less) bn_is_less
  have d_least := fn_least (P := P) (w := w) (base := base) TT d_is_less Fn_least (PySem.W.mg_of X G a_least) bn_least
  have d_greatest := fn_greatest (P := P) (w := w) (base := base) TT d_is_less Fn_greatest (PySem.W.mg_of X G a_greatest) bn_greatest
  have d_whole_below := fn_whole_below (P := P) (w := w) (base := base) TT  Fn_whole_below (PySem.W.mg_of X G a_whole_below) bn_whole_below
  have d_total := fn_total (P := P) (w := w) (base := base) TT d_plus Fn_total (PySem.W.mg_of X G a_total) bn_total
  have d_rest_by := fn_rest_by (P := P) (w := w) (base := base) TT d_by d_minus d_part d_times d_whole_below e_part Fn_rest_by (PySem.W.mg_of X G a_rest_by) bn_rest_by
  have d_in_order := fn_in_order (P := P) (w := w) (base := base) TT d_is_less Fn_in_order (PySem.W.mg_of X G a_in_order) bn_in_order
  have d_check_length := fn_check_length (P := P) (w := w) (base := base) TT d_part Fn_check_length (PySem.W.mg_of X G a_check_length) bn_check_length
  have d__law_dice := fn__law_dice (P := P) (w := w) (base := base) TT  Fn__law_dice (PySem.W.mg_of X G a__law_dice) bn__law_dice
  have d__law_less := fn__law_less (P := P) (w := w) (base := base) TT  Fn__law_less (PySem.W.mg_of X G a__law_less) bn__law_less
  have RD : RollD P w K mg base := ⟨_, _, PySem.W.mg_of X G a__law_roll, k__law_roll, bn__law_roll, ok_roll Fn__law_roll TT.b_int⟩
  have hR := ok_rounds (P := P) (w := w) (base := base) Fn__law_rounds sc__law_rounds rfl (.inl rfl) rfl (fs_rounds TT d__law_dice) finR
  have TD : ToldD P w K mg base (fun n => ([0, C_BadNote, C_BadTime, C_BadLine, C_NoLine, C_BadPaper, C_BadSize, C_BadText, C_BadStore, C_NoSuch] : List Addr).getD n 0) NL := ⟨⟨_, _, ["what"], _, _, _, _, _, _, _, _, _, _, _, _, _, _, _, _, _, PySem.W.mg_of X G a__law_told, k__law_told, l__law_told, e__law_told, bn__law_told, sc__law_told, rfl, .inl rfl, (.cons rfl (PySem.W.mg_of X G aX_BadNote) (by decide) (.cons rfl (PySem.W.mg_of X G aX_BadTime) (by decide) (.cons rfl (PySem.W.mg_of X G aX_BadLine) (by decide) (.cons rfl (PySem.W.mg_of X G aX_NoLine) (by decide) (.cons rfl (PySem.W.mg_of X G aX_BadPaper) (by decide) (.cons rfl (PySem.W.mg_of X G aX_BadSize) (by decide) (.cons rfl (PySem.W.mg_of X G aX_BadText) (by decide) (.cons rfl (PySem.W.mg_of X G aX_BadStore) (by decide) (.cons rfl (PySem.W.mg_of X G aX_NoSuch) (by decide) .nil))))))))), fun f => rfl⟩, exm_all exm⟩
  exact law_ok (i := 1) l_law e_law sc_law rfl (by decide) (by first | exact .inl rfl | exact .inr rfl) rfl (PySem.W.mg_of X G a__law_rounds) k__law_rounds bn__law_rounds (hR.mono (by decide)) rfl (fs_body TT d__law_less d_by d_check_length d_greatest d_in_order d_is_less d_least d_minus d_part d_plus d_rest_by d_shared d_times d_total d_whole_below RD TD tb) (fs_rest TT d__law_less d_by d_check_length d_greatest d_in_order d_is_less d_least d_minus d_part d_plus d_rest_by d_shared d_times d_total d_whole_below RD TD tb) fin
end V

open PySem PySem.W PyProof.Rows
set_option maxHeartbeats 0 in
theorem PySem.Challenge.cw_voicewright_k04_exact_parts_holds : PySem.Challenge.rw_voicewright_k04_exact_parts.Holds := by
  w_on; o_law; k_head; (case hw => w_witness2)
  k_fill
  refine' FL.walk_law (l := PySem.Challenge.rw_voicewright_k04_exact_parts) (n := 63) (k := 9) (x := "script") rfl (by decide) rfl ⟨rfl, by decide, by decide⟩ (fun w h Y => PySem.W.km_in_of Y) (fun w h Y => PySem.W.km_tabs_of Y _ (List.mem_singleton.mpr rfl)) ?fc ?fK ?fF
  case fF =>
    intro w mg fa h KX G hmg
    refine' V.all_mk KX G hmg ?a_shared ?l_shared ?e_shared ?k_shared ?a_part ?l_part ?e_part ?k_part ?t_part ?w_part ?a_plus ?l_plus ?e_plus ?k_plus ?a_minus ?l_minus ?e_minus ?k_minus ?a_times ?l_times ?e_times ?k_times ?a_by ?l_by ?e_by ?k_by ?a_is_less ?l_is_less ?e_is_less ?k_is_less ?a_least ?l_least ?e_least ?k_least ?a_greatest ?l_greatest ?e_greatest ?k_greatest ?a_whole_below ?l_whole_below ?e_whole_below ?k_whole_below ?a_total ?l_total ?e_total ?k_total ?a_rest_by ?l_rest_by ?e_rest_by ?k_rest_by ?a_in_order ?l_in_order ?e_in_order ?k_in_order ?a_check_length ?l_check_length ?e_check_length ?k_check_length ?a__law_dice ?l__law_dice ?e__law_dice ?k__law_dice ?a__law_less ?l__law_less ?e__law_less ?k__law_less ?a__law_roll ?l__law_roll ?e__law_roll ?k__law_roll ?a__law_rounds ?l__law_rounds ?e__law_rounds ?k__law_rounds ?a__law_told ?l__law_told ?e__law_told ?k__law_told ?a_law ?l_law ?e_law ?k_law ?z_abs ?z_int ?z_len ?z_range ?z_sorted ?z_sum ?z_tuple ?y_gcd ?aX_BadNote ?x_BadNote ?kX_BadNote ?bX_BadNote ?tX_BadNote ?aX_BadTime ?x_BadTime ?kX_BadTime ?bX_BadTime ?tX_BadTime ?aX_BadLine ?x_BadLine ?kX_BadLine ?bX_BadLine ?tX_BadLine ?aX_NoLine ?x_NoLine ?kX_NoLine ?bX_NoLine ?tX_NoLine ?aX_BadPaper ?x_BadPaper ?kX_BadPaper ?bX_BadPaper ?tX_BadPaper ?aX_BadSize ?x_BadSize ?kX_BadSize ?bX_BadSize ?tX_BadSize ?aX_BadText ?x_BadText ?kX_BadText ?bX_BadText ?tX_BadText ?aX_BadStore ?x_BadStore ?kX_BadStore ?bX_BadStore ?tX_BadStore ?aX_NoSuch ?x_NoSuch ?kX_NoSuch ?bX_NoSuch ?tX_NoSuch ?exm
    (case a_shared => k_is); (case l_shared => k_is); (case e_shared => k_is); (case k_shared => k_is); (case a_part => k_is); (case l_part => k_is); (case e_part => k_is); (case k_part => k_is); (case t_part => k_is); (case w_part => exact .cons ⟨_, rfl⟩ .nil); (case a_plus => k_is); (case l_plus => k_is); (case e_plus => k_is); (case k_plus => k_is); (case a_minus => k_is); (case l_minus => k_is); (case e_minus => k_is); (case k_minus => k_is); (case a_times => k_is); (case l_times => k_is); (case e_times => k_is); (case k_times => k_is); (case a_by => k_is); (case l_by => k_is); (case e_by => k_is); (case k_by => k_is); (case a_is_less => k_is); (case l_is_less => k_is); (case e_is_less => k_is); (case k_is_less => k_is); (case a_least => k_is); (case l_least => k_is); (case e_least => k_is); (case k_least => k_is); (case a_greatest => k_is); (case l_greatest => k_is); (case e_greatest => k_is); (case k_greatest => k_is); (case a_whole_below => k_is); (case l_whole_below => k_is); (case e_whole_below => k_is); (case k_whole_below => k_is); (case a_total => k_is); (case l_total => k_is); (case e_total => k_is); (case k_total => k_is); (case a_rest_by => k_is); (case l_rest_by => k_is); (case e_rest_by => k_is); (case k_rest_by => k_is); (case a_in_order => k_is); (case l_in_order => k_is); (case e_in_order => k_is); (case k_in_order => k_is); (case a_check_length => k_is); (case l_check_length => k_is); (case e_check_length => k_is); (case k_check_length => k_is); (case a__law_dice => k_is); (case l__law_dice => k_is); (case e__law_dice => k_is); (case k__law_dice => k_is); (case a__law_less => k_is); (case l__law_less => k_is); (case e__law_less => k_is); (case k__law_less => k_is); (case a__law_roll => k_is); (case l__law_roll => k_is); (case e__law_roll => k_is); (case k__law_roll => k_is); (case a__law_rounds => k_is); (case l__law_rounds => k_is); (case e__law_rounds => k_is); (case k__law_rounds => k_is); (case a__law_told => k_is); (case l__law_told => k_is); (case e__law_told => k_is); (case k__law_told => k_is); (case a_law => k_is); (case l_law => k_is); (case e_law => k_is); (case k_law => k_is); (case z_abs => k_is); (case z_int => k_is); (case z_len => k_is); (case z_range => k_is); (case z_sorted => k_is); (case z_sum => k_is); (case z_tuple => k_is); (case y_gcd => k_is); (case aX_BadNote => k_is); (case x_BadNote => k_exc); (case kX_BadNote => k_is); (case bX_BadNote => k_is); (case tX_BadNote => k_is); (case aX_BadTime => k_is); (case x_BadTime => k_exc); (case kX_BadTime => k_is); (case bX_BadTime => k_is); (case tX_BadTime => k_is); (case aX_BadLine => k_is); (case x_BadLine => k_exc); (case kX_BadLine => k_is); (case bX_BadLine => k_is); (case tX_BadLine => k_is); (case aX_NoLine => k_is); (case x_NoLine => k_exc); (case kX_NoLine => k_is); (case bX_NoLine => k_is); (case tX_NoLine => k_is); (case aX_BadPaper => k_is); (case x_BadPaper => k_exc); (case kX_BadPaper => k_is); (case bX_BadPaper => k_is); (case tX_BadPaper => k_is); (case aX_BadSize => k_is); (case x_BadSize => k_exc); (case kX_BadSize => k_is); (case bX_BadSize => k_is); (case tX_BadSize => k_is); (case aX_BadText => k_is); (case x_BadText => k_exc); (case kX_BadText => k_is); (case bX_BadText => k_is); (case tX_BadText => k_is); (case aX_BadStore => k_is); (case x_BadStore => k_exc); (case kX_BadStore => k_is); (case bX_BadStore => k_is); (case tX_BadStore => k_is); (case aX_NoSuch => k_is); (case x_NoSuch => k_exc); (case kX_NoSuch => k_is); (case bX_NoSuch => k_is); (case tX_NoSuch => k_is); (case exm => first | rfl | kernel_rfl)
  case fc => intro w; first | rfl | kernel_rfl | k_is
  case fK => intro w; first | rfl | kernel_rfl | k_is
