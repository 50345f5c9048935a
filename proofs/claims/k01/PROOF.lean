import PyProof.Rows.All
import HandS.ForMost
import HandS.ForExc
import HandS.More
import HandS.TryMany
import HandS.Lambda
import HandS.Flow
import HandS.TupAny
import HandS.Zip
import HandS.NoneIn
import HandS.SortKw
import KE.DataMinMax
import KE.SortData
import HandS.EndTab
import HandS.HeadWalk
import HandS.Gcd
import HandS.CallSlots
import HandS.Defaults
import HandS.Conv
import HandS.Style
import HandS.Text
import HandS.StrMore
import HandS.Replace
import HandS.Deep
import PySem.Challenge.RW_voicewright_k01_notes_and_spellings
set_option Elab.async false
set_option linter.all false
set_option maxRecDepth 100000
set_option maxHeartbeats 2000000
/-! FL1: data by value (D), what stands for it in a heap (Rep), the state of a def by values (S), effects (M), judgements. -/
namespace FL
open PySem PySem.Spec PyProof.Rows L2

/-- a lambda without parameters and captured names, as written, the name of its code, its place in the reader's list -/
structure Lam where
  params : Arguments
  body : Expr
  scope : Scope
  q : PySem.Str
  ix : Nat
def LamO (L : Lam) (f c' : Addr) : HO := .ext fun h => ∃ pm ctv : Value, h.get? f = some (PySem.W.kla_obj "<lambda>" L.q L.params L.body L.scope [] pm c' ctv)
inductive D where
  | non | bl (b : Bool) | int (i : Int) | str (s : PySem.Str) | lst (xs : List D) | tup (xs : List D) | ins (n : Nat) (ds : List D) | fn (L : Lam)

/-- the program's classes by number: their names, their fields in the order in which __init__ sets them -/
def clsName : Nat → PySem.Str
  | 0 => "Spelled" | 1 => "Key" | 2 => "Rules" | 3 => "Style" | 4 => "Meter" | 5 => "Tempos" | 6 => "Score" | 7 => "Neck" | 8 => "Kept" | _ => "Desk"
def fldN : Nat → List PySem.Str
  | 0 => ["letter", "signs", "octave"] | 1 => ["root", "kind"] | 2 => ["notes", "leap", "along", "repeat", "above"] | 3 => ["chords", "costs", "moves", "other"] | 4 => ["beats", "length", "strong"]
  | 5 => ["changes"] | 6 => ["lines"] | 7 => ["strings", "places"] | 8 => ["given", "rules", "table", "done"] | _ => ["kept", "text", "many"]
/-- the class at C is the n-th -/
def ClsAt (K : PySem.W.Frag) (n : Nat) (C : Addr) : Prop := PySem.W.nsIn K mainGlobals (clsName n) = some (some (.ref C))

mutual
inductive Rep (K : PySem.W.Frag) (G : Hp) : V → D → Prop
  | non : Rep K G .non .non
  | bl (b : Bool) : Rep K G (.bl b) (.bl b)
  | int (i : Int) : Rep K G (.int i) (.int i)
  | str (x : PySem.Str) : Rep K G (.str x) (.str x)
  | lst {a : Addr} {xs : List V} {ds : List D} : G a = some (.lst xs) → RepL K G xs ds → Rep K G (.ref a) (.lst ds)
  | tup {a : Addr} {xs : List V} {ds : List D} : SqT K G a xs → RepL K G xs ds → Rep K G (.ref a) (.tup ds)
  | ins {a C dx : Addr} {n : Nat} {vs : List V} {ds : List D} : ClsAt K n C → G a = some (.ins C dx ((fldN n).zip vs)) → ds.length = (fldN n).length → RepL K G vs ds → Rep K G (.ref a) (.ins n ds)
  | fn {f c' : Addr} {L : Lam} : G f = some (LamO L f c') → G c' = some (LamX.CodeO c' L.q) → Rep K G (.ref f) (.fn L)
inductive RepL (K : PySem.W.Frag) (G : Hp) : List V → List D → Prop
  | nil : RepL K G [] []
  | cons {v : V} {vs : List V} {d : D} {ds : List D} : Rep K G v d → RepL K G vs ds → RepL K G (v :: vs) (d :: ds)
end

theorem seqT {K : PySem.W.Frag} {H H' : Hp} {a : Addr} {xs : List V} (e : Same H H') (h : SqT K H a xs) : SqT K H' a xs := by
  rcases h with (h | ⟨o, h⟩) | h
  · exact .inl (.inl (e _ _ h))
  · exact .inl (.inr ⟨o, e _ _ h⟩)
  · exact .inr h
mutual
theorem Rep.mono {K : PySem.W.Frag} {G G' : Hp} (e : Same G G') : ∀ {v : V} {d : D}, Rep K G v d → Rep K G' v d
  | _, _, .non => .non
  | _, _, .bl b => .bl b
  | _, _, .int i => .int i
  | _, _, .str x => .str x
  | _, _, .lst h r => .lst (e _ _ h) (RepL.mono e r)
  | _, _, .tup h r => .tup (seqT e h) (RepL.mono e r)
  | _, _, .ins k h l r => .ins k (e _ _ h) l (RepL.mono e r)
  | _, _, .fn h1 h2 => .fn (e _ _ h1) (e _ _ h2)
theorem RepL.mono {K : PySem.W.Frag} {G G' : Hp} (e : Same G G') : ∀ {v : List V} {d : List D}, RepL K G v d → RepL K G' v d
  | _, _, .nil => .nil
  | _, _, .cons h r => .cons (Rep.mono e h) (RepL.mono e r)
end
theorem RepL.length {K : PySem.W.Frag} {G : Hp} : ∀ {v : List V} {d : List D}, RepL K G v d → v.length = d.length
  | _, _, .nil => rfl
  | _, _, .cons _ r => by simp [RepL.length r]
theorem RepL.get {K : PySem.W.Frag} {G : Hp} : ∀ {vs : List V} {ds : List D} {i : Nat} {d : D}, RepL K G vs ds → ds[i]? = some d → ∃ v, vs[i]? = some v ∧ Rep K G v d
  | _, _, _, _, .nil, e => by simp at e
  | _, _, 0, _, .cons r _, e => by simp at e; subst e; exact ⟨_, rfl, r⟩
  | _, _, i + 1, d, .cons _ t, e => by
    obtain ⟨v, h1, h2⟩ := RepL.get (i := i) (d := d) t (by simpa using e)
    exact ⟨v, by simpa using h1, h2⟩
theorem RepL.get' {K : PySem.W.Frag} {G : Hp} : ∀ {vs : List V} {ds : List D} {i : Nat} {v : V}, RepL K G vs ds → vs[i]? = some v → ∃ d, ds[i]? = some d ∧ Rep K G v d
  | _, _, _, _, .nil, e => by simp at e
  | _, _, 0, _, .cons r _, e => by simp at e; subst e; exact ⟨_, rfl, r⟩
  | _, _, i + 1, d, .cons _ t, e => by
    obtain ⟨v, h1, h2⟩ := RepL.get' (i := i) (v := d) t (by simpa using e)
    exact ⟨v, by simpa using h1, h2⟩
theorem RepL.append {K : PySem.W.Frag} {G : Hp} : ∀ {vs ws : List V} {ds es : List D}, RepL K G vs ds → RepL K G ws es → RepL K G (vs ++ ws) (ds ++ es)
  | _, _, _, _, .nil, r => r
  | _, _, _, _, .cons h t, r => .cons h (RepL.append t r)
theorem RepL.take {K : PySem.W.Frag} {G : Hp} : ∀ {vs : List V} {ds : List D} (n : Nat), RepL K G vs ds → RepL K G (vs.take n) (ds.take n)
  | _, _, 0, _ => .nil
  | _, _, _ + 1, .nil => .nil
  | _, _, n + 1, .cons h t => .cons h (RepL.take n t)
theorem RepL.drop {K : PySem.W.Frag} {G : Hp} : ∀ {vs : List V} {ds : List D} (n : Nat), RepL K G vs ds → RepL K G (vs.drop n) (ds.drop n)
  | _, _, 0, r => r
  | _, _, _ + 1, .nil => .nil
  | _, _, n + 1, .cons h t => RepL.drop n t
theorem RepL.set {K : PySem.W.Frag} {G : Hp} {v : V} {d : D} (hv : Rep K G v d) : ∀ {vs : List V} {ds : List D} (n : Nat), RepL K G vs ds → RepL K G (vs.set n v) (ds.set n d)
  | _, _, _, .nil => .nil
  | _, _, 0, .cons _ t => .cons hv t
  | _, _, n + 1, .cons h t => .cons h (RepL.set hv n t)
theorem RepL.ints {K : PySem.W.Frag} {G : Hp} : ∀ (ns : List Int), RepL K G (ns.map V.int) (ns.map D.int)
  | [] => .nil
  | n :: r => .cons (.int n) (RepL.ints r)
theorem RepL.ints' {K : PySem.W.Frag} {G : Hp} : ∀ {vs : List V} {ns : List Int}, RepL K G vs (ns.map D.int) → vs = ns.map V.int
  | _, [], .nil => rfl
  | _, n :: r, .cons h t => by cases h; rw [RepL.ints' t]; rfl
theorem RepL.none {K : PySem.W.Frag} {G : Hp} {vs : List V} {ds : List D} {i : Nat} (r : RepL K G vs ds) (h : ds[i]? = none) : vs[i]? = none := by
  rw [List.getElem?_eq_none_iff] at h ⊢
  rw [r.length]; exact h

/-- a slot: nothing known; a value (frozen); a list that this slot alone holds -/
inductive Sl where
  | un | val (d : D) | own (xs : List D)
abbrev De := List Sl

/-- the state: F what the callers hold (not ours to touch), G what is frozen -/
structure S (κ : PySem.W.Frag × List (Addr × PySem.Str)) (F : Hp) (σ : L2.St) (G H : Hp) (δ : De) : Prop where
  sub : Same G H
  frm : Same F H
  dis : ∀ b o, F b = some o → G b = none
  len : δ.length = σ.length
  val : ∀ (i : Nat) d, δ[i]? = some (.val d) → ∃ v, σ[i]? = some (some v) ∧ Rep κ.1 G v d
  own : ∀ (i : Nat) xs, δ[i]? = some (.own xs) → ∃ p vs, σ[i]? = some (some (.ref p)) ∧ H p = some (.lst vs) ∧ RepL κ.1 G vs xs ∧ G p = none ∧ F p = none
  inj : ∀ (i j : Nat) xs ys, i ≠ j → δ[i]? = some (.own xs) → δ[j]? = some (.own ys) → σ[i]? ≠ σ[j]?
  tab : LamX.Tabs κ.2 H
  tnf : ∀ p ∈ κ.2, F p.1 = none ∧ G p.1 = none
  ntg : ∀ b ps, G b ≠ some (.tbl ps)
  ntf : κ.2 = [] ∨ ∀ b o, F b = some o → ∃ xs, o = .lst xs

/-- a list is changed: no table sees it -/
theorem tabs_lst {T : List (Addr × PySem.Str)} {H : Hp} {p : Addr} {vs ws : List V} (t : LamX.Tabs T H) (h : H p = some (.lst vs)) : LamX.Tabs T (upd H p (.lst ws)) := fun x hx => by
  obtain ⟨ps, h1, h2, h3⟩ := t x hx
  refine ⟨ps, ?_, h2, fun pos cv hc => ?_⟩
  · rw [upd_ne]
    · exact h1
    · intro e; rw [e, h] at h1; cases h1
  · obtain ⟨c, e1, e2⟩ := h3 pos cv hc
    refine ⟨c, e1, ?_⟩
    rw [upd_ne]
    · exact e2
    · intro e
      rw [e, h] at e2
      unfold LamX.CodeO at e2
      cases e2
theorem same_upd {H : Hp} {p : Addr} {o : HO} (h : H p = none) : Same H (upd H p o) := fun b x e => by
  rw [upd_ne (ne_of_none e h)]; exact e
section
variable {K : PySem.W.Frag} {T : List (Addr × PySem.Str)} {F : Hp} {σ : L2.St} {G H : Hp} {δ : De}
/-- a new frozen object -/
theorem S.tab_at (s : S (K, T) F σ G H δ) {x : Addr × PySem.Str} (hx : x ∈ T) : ∃ ps, H x.1 = some (.tbl ps) := let ⟨ps, h, _⟩ := s.tab x hx; ⟨ps, h⟩
theorem S.new (s : S (K, T) F σ G H δ) {p : Addr} {o : HO} (h : H p = none) (no : ∀ ps, o ≠ .tbl ps := by intro _ z; cases z) : S (K, T) F σ (upd G p o) (upd H p o) δ := by
  have hg : G p = none := s.sub.free h
  have sg : Same G (upd G p o) := same_upd hg
  have nb : ∀ b x, H b = some x → b ≠ p := fun b x e => ne_of_none e h
  refine ⟨fun b x e => ?_, fun b x e => ?_, fun b x e => ?_, s.len, fun i d e => ?_, fun i xs e => ?_, s.inj, s.tab.ext (same_upd h), fun x hx => ?_, fun b ps e => ?_, s.ntf⟩
  · by_cases hb : b = p
    · subst hb; rw [upd_same] at e ⊢; exact e
    · rw [upd_ne hb] at e ⊢; exact s.sub _ _ e
  · rw [upd_ne (nb _ _ (s.frm _ _ e))]; exact s.frm _ _ e
  · rw [upd_ne (nb _ _ (s.frm _ _ e))]; exact s.dis _ _ e
  · obtain ⟨v, h1, h2⟩ := s.val i d e
    exact ⟨v, h1, h2.mono sg⟩
  · obtain ⟨q, vs, h1, h2, h3, h4, h5⟩ := s.own i xs e
    exact ⟨q, vs, h1, by rw [upd_ne (nb _ _ h2)]; exact h2, h3.mono sg, by rw [upd_ne (nb _ _ h2)]; exact h4, h5⟩
  · obtain ⟨ps, hp⟩ := s.tab_at hx
    rw [upd_ne (nb _ _ hp)]
    exact s.tnf x hx
  · by_cases hb : b = p
    · subst hb; rw [upd_same] at e; exact no ps (Option.some.inj e)
    · rw [upd_ne hb] at e; exact s.ntg b ps e
/-- a new object that the heap has and nothing is frozen of -/
theorem S.newH (s : S (K, T) F σ G H δ) {p : Addr} {o : HO} (h : H p = none) : S (K, T) F σ G (upd H p o) δ := by
  have nb : ∀ b x, H b = some x → b ≠ p := fun b x e => ne_of_none e h
  refine ⟨fun b x e => ?_, fun b x e => ?_, s.dis, s.len, s.val, fun i xs e => ?_, s.inj, s.tab.ext (same_upd h), s.tnf, s.ntg, s.ntf⟩
  · rw [upd_ne (nb _ _ (s.sub _ _ e))]; exact s.sub _ _ e
  · rw [upd_ne (nb _ _ (s.frm _ _ e))]; exact s.frm _ _ e
  · obtain ⟨q, vs, h1, h2, h3, h4, h5⟩ := s.own i xs e
    exact ⟨q, vs, h1, by rw [upd_ne (nb _ _ h2)]; exact h2, h3, h4, h5⟩
theorem S.new_none (s : S (K, T) F σ G H δ) {p : Addr} (h : H p = none) : G p = none := s.sub.free h
/-- what is frozen is still there in another state -/
theorem S.store (s : S (K, T) F σ G H δ) {v : V} {d : D} (i : Nat) (r : Rep K G v d) : S (K, T) F (σ.set i (some v)) G H (δ.set i (.val d)) := by
  refine ⟨s.sub, s.frm, s.dis, by simp [s.len], fun j e h => ?_, fun j xs h => ?_, fun j k xs ys hn h1 h2 => ?_, s.tab, s.tnf, s.ntg, s.ntf⟩
  · by_cases hj : i = j
    · subst hj
      have hl : i < δ.length := by
        cases Nat.lt_or_ge i δ.length with
        | inl h => exact h
        | inr h' => rw [List.getElem?_eq_none_iff.mpr (by simpa using h')] at h; cases h
      rw [List.getElem?_set_self hl] at h
      cases h
      exact ⟨v, by rw [List.getElem?_set_self (by rw [← s.len]; exact hl)], r⟩
    · rw [List.getElem?_set_ne hj] at h ⊢
      exact s.val j e h
  · by_cases hj : i = j
    · subst hj
      have hl : i < δ.length := by
        cases Nat.lt_or_ge i δ.length with
        | inl h => exact h
        | inr h' => rw [List.getElem?_eq_none_iff.mpr (by simpa using h')] at h; cases h
      rw [List.getElem?_set_self hl] at h
      cases h
    · rw [List.getElem?_set_ne hj] at h ⊢
      exact s.own j xs h
  · have nj : ∀ (j : Nat) (xs : List D), (δ.set i (.val d))[j]? = some (.own xs) → i ≠ j := fun j xs h hj => by
      subst hj
      have hl : i < δ.length := by
        cases Nat.lt_or_ge i δ.length with
        | inl h => exact h
        | inr h' => rw [List.getElem?_eq_none_iff.mpr (by simpa using h')] at h; cases h
      rw [List.getElem?_set_self hl] at h
      cases h
    have n1 := nj j xs h1
    have n2 := nj k ys h2
    rw [List.getElem?_set_ne n1] at h1 ⊢
    rw [List.getElem?_set_ne n2] at h2 ⊢
    exact s.inj j k xs ys hn h1 h2
theorem get_set {α : Type} {l : List α} {i j : Nat} {a b : α} (h : (l.set i a)[j]? = some b) : (i = j ∧ i < l.length ∧ b = a) ∨ (i ≠ j ∧ l[j]? = some b) := by
  by_cases hj : i = j
  · subst hj
    have hl : i < l.length := by
      cases Nat.lt_or_ge i l.length with
      | inl h => exact h
      | inr h' => rw [List.getElem?_eq_none_iff.mpr (by simpa using h')] at h; cases h
    rw [List.getElem?_set_self hl] at h
    cases h
    exact .inl ⟨rfl, hl, rfl⟩
  · rw [List.getElem?_set_ne hj] at h
    exact .inr ⟨hj, h⟩
/-- a slot is forgotten, with whatever stands in it -/
theorem S.wipe (s : S (K, T) F σ G H δ) (i : Nat) (v : Option V) : S (K, T) F (σ.set i v) G H (δ.set i .un) := by
  refine ⟨s.sub, s.frm, s.dis, by simp [s.len], fun j e h => ?_, fun j xs h => ?_, fun j k xs ys hn h1 h2 => ?_, s.tab, s.tnf, s.ntg, s.ntf⟩
  · rcases get_set h with ⟨_, _, z⟩ | ⟨hj, h⟩
    · cases z
    · rw [List.getElem?_set_ne hj]; exact s.val j e h
  · rcases get_set h with ⟨_, _, z⟩ | ⟨hj, h⟩
    · cases z
    · rw [List.getElem?_set_ne hj]; exact s.own j xs h
  · rcases get_set h1 with ⟨_, _, z⟩ | ⟨hj, h1⟩
    · cases z
    · rcases get_set h2 with ⟨_, _, z⟩ | ⟨hk, h2⟩
      · cases z
      · rw [List.getElem?_set_ne hj, List.getElem?_set_ne hk]; exact s.inj j k xs ys hn h1 h2
/-- a new list of one's own is stored -/
theorem S.storeOwn (s : S (K, T) F σ G H δ) {p : Addr} {vs : List V} {xs : List D} (i : Nat) (h : H p = none) (r : RepL K G vs xs) : S (K, T) F (σ.set i (some (.ref p))) G (upd H p (.lst vs)) (δ.set i (.own xs)) := by
  have s1 := s.newH (o := .lst vs) h
  have nb : ∀ b x, H b = some x → b ≠ p := fun b x e => ne_of_none e h
  have gp : G p = none := s.sub.free h
  have fp : F p = none := s.frm.free h
  refine ⟨s1.sub, s1.frm, s1.dis, by simp [s.len], fun j e h' => ?_, fun j ys h' => ?_, fun j k ys zs hn h1 h2 => ?_, s1.tab, s1.tnf, s1.ntg, s1.ntf⟩
  · rcases get_set h' with ⟨_, _, z⟩ | ⟨hj, h'⟩
    · cases z
    · rw [List.getElem?_set_ne hj]; exact s.val j e h'
  · rcases get_set h' with ⟨hj, hl, z⟩ | ⟨hj, h'⟩
    · cases z
      subst hj
      exact ⟨p, vs, by rw [List.getElem?_set_self (by rw [← s.len]; exact hl)], upd_same, r, gp, fp⟩
    · rw [List.getElem?_set_ne hj]; exact s1.own j ys h'
  · have ne : ∀ (j : Nat) ys, δ[j]? = some (.own ys) → σ[j]? ≠ some (some (.ref p)) := fun j ys h' z => by
      obtain ⟨q, ws, e1, e2, _⟩ := s.own j ys h'
      rw [z] at e1
      cases e1
      exact nb _ _ e2 rfl
    rcases get_set h1 with ⟨hj, hl, z⟩ | ⟨hj, h1⟩
    · rcases get_set h2 with ⟨hk, _, z2⟩ | ⟨hk, h2⟩
      · exact absurd (hj.symm.trans hk) hn
      · subst hj
        rw [List.getElem?_set_self (by rw [← s.len]; exact hl), List.getElem?_set_ne hk]
        exact Ne.symm (ne _ _ h2)
    · rcases get_set h2 with ⟨hk, hl, z2⟩ | ⟨hk, h2⟩
      · subst hk
        rw [List.getElem?_set_self (by rw [← s.len]; exact hl), List.getElem?_set_ne hj]
        exact ne _ _ h1
      · rw [List.getElem?_set_ne hj, List.getElem?_set_ne hk]; exact s.inj j k ys zs hn h1 h2
/-- a list of one's own is changed -/
theorem S.setOwn (s : S (K, T) F σ G H δ) {i : Nat} {xs ys : List D} {p : Addr} {ws : List V} (h : δ[i]? = some (.own xs)) (hp : σ[i]? = some (some (.ref p))) (r : RepL K G ws ys) : S (K, T) F σ G (upd H p (.lst ws)) (δ.set i (.own ys)) := by
  obtain ⟨q, vs, e1, e2, e3, e4, e5⟩ := s.own i xs h
  rw [hp] at e1
  cases e1
  have gn : ∀ b x, G b = some x → b ≠ p := fun b x e => ne_of_none e e4
  have fn : ∀ b x, F b = some x → b ≠ p := fun b x e => ne_of_none e e5
  refine ⟨fun b x e => ?_, fun b x e => ?_, s.dis, by simp [s.len], fun j e h' => ?_, fun j zs h' => ?_, fun j k zs us hn h1 h2 => ?_, tabs_lst s.tab e2, s.tnf, s.ntg, s.ntf⟩
  · rw [upd_ne (gn _ _ e)]; exact s.sub _ _ e
  · rw [upd_ne (fn _ _ e)]; exact s.frm _ _ e
  · rcases get_set h' with ⟨_, _, z⟩ | ⟨hj, h'⟩
    · cases z
    · exact s.val j e h'
  · rcases get_set h' with ⟨hj, hl, z⟩ | ⟨hj, h'⟩
    · cases z
      subst hj
      exact ⟨p, ws, hp, upd_same, r, e4, e5⟩
    · obtain ⟨q, us, f1, f2, f3, f4, f5⟩ := s.own j zs h'
      refine ⟨q, us, f1, ?_, f3, f4, f5⟩
      rw [upd_ne]
      · exact f2
      · rintro rfl
        exact s.inj i j xs zs hj h h' (hp.trans f1.symm)
  · have back : ∀ (j : Nat) zs, (δ.set i (.own ys))[j]? = some (.own zs) → ∃ us, δ[j]? = some (.own us) := fun j zs h' => by
      rcases get_set h' with ⟨hj, hl, z⟩ | ⟨hj, h'⟩
      · subst hj; exact ⟨xs, h⟩
      · exact ⟨zs, h'⟩
    obtain ⟨u1, g1⟩ := back j zs h1
    obtain ⟨u2, g2⟩ := back k us h2
    exact s.inj j k u1 u2 hn g1 g2
/-- a list of one's own is frozen: from now on a value -/
theorem S.freeze (s : S (K, T) F σ G H δ) {i : Nat} {xs : List D} (h : δ[i]? = some (.own xs)) : ∃ p vs, σ[i]? = some (some (.ref p)) ∧ G p = none ∧ H p = some (.lst vs) ∧ RepL K G vs xs ∧ S (K, T) F σ (upd G p (.lst vs)) H (δ.set i (.val (.lst xs))) := by
  obtain ⟨p, vs, e1, e2, e3, e4, e5⟩ := s.own i xs h
  refine ⟨p, vs, e1, e4, e2, e3, ?_⟩
  have sg : Same G (upd G p (.lst vs)) := same_upd e4
  refine ⟨fun b x e => ?_, s.frm, fun b x e => ?_, by simp [s.len], fun j d h' => ?_, fun j zs h' => ?_, fun j k zs us hn h1 h2 => ?_, s.tab, fun x hx => ⟨(s.tnf x hx).1, ?_⟩, fun b ps e => ?_, s.ntf⟩
  · by_cases hb : b = p
    · subst hb; rw [upd_same] at e; rw [← e]; exact e2
    · rw [upd_ne hb] at e; exact s.sub _ _ e
  · rw [upd_ne (ne_of_none e e5)]; exact s.dis _ _ e
  · rcases get_set h' with ⟨hj, hl, z⟩ | ⟨hj, h'⟩
    · cases z
      subst hj
      exact ⟨_, e1, .lst upd_same (e3.mono sg)⟩
    · obtain ⟨v, f1, f2⟩ := s.val j d h'
      exact ⟨v, f1, f2.mono sg⟩
  · rcases get_set h' with ⟨hj, hl, z⟩ | ⟨hj, h'⟩
    · cases z
    · obtain ⟨q, us, f1, f2, f3, f4, f5⟩ := s.own j zs h'
      refine ⟨q, us, f1, f2, f3.mono sg, ?_, f5⟩
      rw [upd_ne]
      · exact f4
      · rintro rfl
        exact s.inj i j xs zs hj h h' (e1.trans f1.symm)
  · rcases get_set h1 with ⟨hj, hl, z⟩ | ⟨hj, h1⟩
    · cases z
    · rcases get_set h2 with ⟨hk, hl, z⟩ | ⟨hk, h2⟩
      · cases z
      · exact s.inj j k zs us hn h1 h2
  · obtain ⟨ps, hp⟩ := s.tab_at hx
    rw [upd_ne]
    · exact (s.tnf x hx).2
    · intro e; rw [e, e2] at hp; cases hp
  · by_cases hb : b = p
    · subst hb; rw [upd_same] at e; cases e
    · rw [upd_ne hb] at e; exact s.ntg b ps e
end
end FL

set_option Elab.async false
set_option linter.all false
set_option maxRecDepth 100000
set_option maxHeartbeats 2000000
/-! FL2: effects, contexts, judgements; rules of expressions. -/
namespace FL
open PySem PySem.Spec PyProof.Rows L2

/-! ### effects -/
inductive R (α : Type) where
  | ok (a : α) (δ : De) | ex (c : Nat)
abbrev M (α : Type) := De → Option (R α)
def bindM {α β : Type} (m : M α) (k : α → M β) : M β := fun δ => match m δ with
  | none => none
  | some (.ex c) => some (.ex c)
  | some (.ok a δ') => k a δ'
def pureM {α : Type} (a : α) : M α := fun δ => some (.ok a δ)
def liftO {α : Type} : Option α → M α
  | some a => pureM a
  | none => fun _ => none
@[simp] theorem liftO_some {α : Type} (a : α) : liftO (some a) = pureM a := rfl
@[simp] theorem liftO_none {α : Type} : liftO (none : Option α) = fun _ => none := rfl
@[simp] theorem bindM_pure {α β : Type} (a : α) (k : α → M β) : bindM (pureM a) k = k a := rfl
theorem bindM_ok {α β : Type} {m : M α} {k : α → M β} {δ δ' : De} {a : α} (h : m δ = some (.ok a δ')) : bindM m k δ = k a δ' := by unfold bindM; rw [h]
theorem bindM_ex {α β : Type} {m : M α} {k : α → M β} {δ : De} {c : Nat} (h : m δ = some (.ex c)) : bindM m k δ = some (.ex c) := by unfold bindM; rw [h]

section
variable (κ : PySem.W.Frag × List (Addr × PySem.Str)) (cl : Nat → Addr) (E : XK) (F : Hp) (σ : L2.St) (G : Hp)
def Post {ν α : Type} (RA : Hp → ν → α → Prop) (Q : ν → Hp → Prop) : R α → Prop
  | .ok a δ' => ∀ G' H' v, S κ F σ G' H' δ' → Same G G' → RA G' v a → Q v H'
  | .ex c => ∀ G' H', Same G G' → Same G' H' → Same F H' → E (.ref (cl c)) none H'
end
def Sp2 (κ : PySem.W.Frag × List (Addr × PySem.Str)) (cl : Nat → Addr) (E : XK) {ν α : Type} (RA : Hp → ν → α → Prop) (t : L2.St → Hp → (ν → Hp → Prop) → Prop) (f : M α) : Prop :=
  ∀ F σ G H δ r, S κ F σ G H δ → f δ = some r → ∀ Q, Post κ cl E F σ G RA Q r → t σ H Q
section
variable {K : PySem.W.Frag} {T : List (Addr × PySem.Str)} {cl : Nat → Addr} {E : XK}
theorem Post.weak {F : Hp} {σ : L2.St} {G G1 : Hp} {ν α : Type} {RA : Hp → ν → α → Prop} {Q : ν → Hp → Prop} (e : Same G G1) : ∀ {r : R α}, Post (K, T) cl E F σ G RA Q r → Post (K, T) cl E F σ G1 RA Q r
  | .ok _ _, h => fun G' H' v s g => h G' H' v s (e.trans g)
  | .ex _, h => fun G' H' g => h G' H' (e.trans g)
theorem Sp2.bind {ν μ α β : Type} {RA : Hp → ν → α → Prop} {RB : Hp → μ → β → Prop} {ta : L2.St → Hp → (ν → Hp → Prop) → Prop} {fa : M α} (ha : Sp2 (K, T) cl E RA ta fa)
    {k : ν → L2.St → Hp → (μ → Hp → Prop) → Prop} {g : α → M β}
    (hk : ∀ F σ G H δ x a r, S (K, T) F σ G H δ → RA G x a → g a δ = some r → ∀ Q, Post (K, T) cl E F σ G RB Q r → k x σ H Q) :
    Sp2 (K, T) cl E RB (fun σ H Q => ta σ H fun x H1 => k x σ H1 Q) (bindM fa g) := by
  intro F σ G H δ r s e Q p
  unfold bindM at e
  cases h : fa δ with
  | none => rw [h] at e; cases e
  | some ra =>
    rw [h] at e
    refine ha F σ G H δ ra s h _ ?_
    cases ra with
    | ex c =>
      cases e
      exact p
    | ok a δ' =>
      exact fun G' H' v s' g' rv => hk F σ G' H' δ' v a r s' rv e Q (p.weak g')
theorem Sp2.pure {ν α : Type} {RA : Hp → ν → α → Prop} {v : ν} {a : α} (h : ∀ G, RA G v a) : Sp2 (K, T) cl E RA (fun _ H Q => Q v H) (pureM a) := by
  intro F σ G H δ r s e Q p
  cases e
  exact p G H v s (Same.refl _) (h G)
end

/-- a step: the first part, then the rest from where it leaves -/
theorem Sp2.step {K : PySem.W.Frag} {T : List (Addr × PySem.Str)} {cl : Nat → Addr} {E : XK} {ν μ α β : Type} {RA : Hp → ν → α → Prop} {RB : Hp → μ → β → Prop} {ta : L2.St → Hp → (ν → Hp → Prop) → Prop} {fa : M α} (ha : Sp2 (K, T) cl E RA ta fa) {F : Hp} {σ : L2.St} {G H : Hp} {δ : De} {g : α → M β} {r : R β} {Q : μ → Hp → Prop} {k : ν → Hp → Prop}
    (s : S (K, T) F σ G H δ) (e : bindM fa g δ = some r) (p : Post (K, T) cl E F σ G RB Q r)
    (hk : ∀ G' H' δ' x a, S (K, T) F σ G' H' δ' → Same G G' → RA G' x a → g a δ' = some r → Post (K, T) cl E F σ G' RB Q r → k x H') : ta σ H k := by
  unfold bindM at e
  cases h : fa δ with
  | none => rw [h] at e; cases e
  | some ra =>
    rw [h] at e
    refine ha F σ G H δ ra s h _ ?_
    cases ra with
    | ex c =>
      cases e
      exact p
    | ok a δ' => exact fun G' H' v s' g' rv => hk G' H' δ' v a s' g' rv e (p.weak g')
theorem liftO_eq {β : Type} {o : Option β} {δ : De} {r : R β} (e : liftO o δ = some r) : ∃ b, o = some b ∧ r = .ok b δ := by
  cases o with
  | none => cases e
  | some b => cases e; exact ⟨b, rfl, rfl⟩

/-! ### contexts -/
structure SC where
  P : Program
  w : World
  K : PySem.W.Frag
  mg : Str → Option Value
  base : Heap
  N : List Str
  sc : Scope
  k : Nat
  cl : Nat → Addr
  E : XK
  st : Str → Bool
  T : List (Addr × PySem.Str)
  code : Value
  qual : Str
abbrev SC.κ (c : SC) : PySem.W.Frag × List (Addr × PySem.Str) := (c.K, c.T)
structure In (c : SC) (X : Cx) : Prop where
  P : X.prog = c.P
  w : X.w = c.w
  K : X.K = c.K
  mg : X.mg = c.mg
  base : X.base = c.base
  N : X.N = c.N
  sc : X.env.scope = c.sc
  calm : X.calm = true
  room : Room c.k X.A
  tk : Takes X (fun cls d _ H => c.E cls d H)
  fn : ∀ x, c.st x = true → X.fn x = true ∨ X.env.scope.names.lookup x = some .local
  po : PassesOwn (model X.prog X.w) X.A X.env X.xe
  code : c.T = [] ∨ (X.env.code = c.code ∧ X.env.qual = c.qual)

structure FE (c : SC) (e : Expr) (f : M D) : Prop where
  ex : ∃ t, (∀ X, In c X → PE X e t) ∧ Sp2 c.κ c.cl c.E (Rep c.K) t f
structure FA (c : SC) (es : List Expr) (f : M (List D)) : Prop where
  ex : ∃ t, (∀ X, In c X → PA X es t) ∧ Sp2 c.κ c.cl c.E (RepL c.K) t f
def RepB (_ : Hp) (b b' : Bool) : Prop := b = b'
structure FT (c : SC) (e : Expr) (f : M Bool) : Prop where
  ex : ∃ t, (∀ X, In c X → PT X e t) ∧ Sp2 c.κ c.cl c.E RepB t f
structure FW (c : SC) (e : Expr) (f : M Bool) : Prop where
  ex : ∃ t, (∀ X, In c X → PW X e t) ∧ Sp2 c.κ c.cl c.E RepB t f

section
variable {c : SC}
/-! ### names, constants -/
def varM (i : Nat) : M D := fun δ => match δ[i]? with
  | some (.val d) => some (.ok d δ)
  | _ => none
theorem fe_var (i : Nat) {x : Str} {pos : Pos} (hN : c.N[i]? = some x := by rfl) (hv : Vis c.sc x := by first | exact Or.inl rfl | exact Or.inr (Or.inl rfl) | exact Or.inr (Or.inr rfl)) (hd : (x == ("__debug__" : Str)) = false := by decide)
    (hcd : (x == ("__classdict__" : Str)) = false := by decide) : FE c (.Name x pos) (varM i) := by
  refine ⟨tVar i, fun X h => pe_var (by rw [h.N]; exact hN) (by rw [h.sc]; exact hv) hd hcd, fun F σ G H δ r s e Q p => ?_⟩
  unfold varM at e
  split at e
  · rename_i d hd
    cases e
    obtain ⟨v, h1, h2⟩ := s.val i d hd
    exact ⟨v, h1, p G H v s (Same.refl _) h2⟩
  · cases e
theorem fe_int {i : Int} {j pos} : FE c (.Constant (.int i) j pos) (pureM (.int i)) := ⟨_, fun _ _ => pe_int, Sp2.pure fun _ => .int i⟩
theorem fe_bl {b : Bool} {j pos} : FE c (.Constant (.bool b) j pos) (pureM (.bl b)) := ⟨_, fun _ _ => pe_bl, Sp2.pure fun _ => .bl b⟩
theorem fe_non {j pos} : FE c (.Constant .none j pos) (pureM .non) := ⟨_, fun _ _ => pe_non, Sp2.pure fun _ => .non⟩
theorem fe_str {x : Str} {j pos} : FE c (.Constant (.str x) j pos) (pureM (.str x)) := ⟨_, fun _ _ => pe_str, Sp2.pure fun _ => .str x⟩
/-- a module's constant -/
structure Const (K : PySem.W.Frag) (mg : Str → Option Value) (x : Str) (d : D) : Prop where
  ex : ∃ v u, mg x = some u ∧ RelV v u ∧ ∀ G, Rep K G v d
theorem fe_const {x : Str} {d : D} {pos : Pos} (h : Const c.K c.mg x d) (hg : c.sc.names.lookup x = some .globalImplicit := by rfl) (hd : (x == ("__debug__" : Str)) = false := by decide) : FE c (.Name x pos) (pureM d) := by
  obtain ⟨v, u, hm, r, hr⟩ := h.ex
  exact ⟨_, fun X h => pe_glob (show X.env.scope.names.lookup x = _ by rw [h.sc]; exact hg) (by rw [h.mg]; exact hm) r hd, Sp2.pure hr⟩

/-! ### operators -/
structure Op2 (K : PySem.W.Frag) (r : R2) (g : D → D → Option D) : Prop where
  run : ∀ T F σ G H δ v u a b d, S (K, T) F σ G H δ → Rep K G v a → Rep K G u b → g a b = some d → ∀ Q : VK, (∀ G' H' w, S (K, T) F σ G' H' δ → Same G G' → Rep K G' w d → Q w H') → r v u H Q
def bin2 (g : D → D → Option D) (fa fb : M D) : M D := bindM fa fun x => bindM fb fun y => liftO (g x y)
theorem Sp2.op2 {K : PySem.W.Frag} {T : List (Addr × PySem.Str)} {cl : Nat → Addr} {E : XK} {r : R2} {g : D → D → Option D} {ta tb : TE} {fa fb : M D} (hr : Op2 K r g) (ha : Sp2 (K, T) cl E (Rep K) ta fa) (hb : Sp2 (K, T) cl E (Rep K) tb fb) : Sp2 (K, T) cl E (Rep K) (tOp r ta tb) (bin2 g fa fb) := by
  intro F σ G H δ r s e Q p
  refine ha.step s e p fun G1 H1 δ1 x a s1 g1 rx e1 p1 => ?_
  refine hb.step s1 e1 p1 fun G2 H2 δ2 y b s2 g2 ry e2 p2 => ?_
  obtain ⟨d, hd, rfl⟩ := liftO_eq e2
  exact hr.run _ F σ G2 H2 δ2 x y a b d s2 (rx.mono g2) ry hd Q fun G' H' w s' g' rw' => p2 G' H' w s' g' rw'
theorem Op2.or {K : PySem.W.Frag} {r r' : R2} {g g' : D → D → Option D} (h : Op2 K r g) (h' : Op2 K r' g') : Op2 K (fun x y H Q => r x y H Q ∨ r' x y H Q) (fun a b => (g a b).or (g' a b)) := by
  refine ⟨fun T F σ G H δ v u a b d s rv ru e Q q => ?_⟩
  cases h1 : g a b with
  | some d' =>
    rw [h1, Option.some_or] at e
    cases e
    exact .inl (h.run _ F σ G H δ v u a b _ s rv ru h1 Q q)
  | none =>
    rw [h1, Option.none_or] at e
    exact .inr (h'.run _ F σ G H δ v u a b _ s rv ru e Q q)
theorem Op2.imp {K : PySem.W.Frag} {r : R2} {g g' : D → D → Option D} (h : Op2 K r g) (i : ∀ a b d, g' a b = some d → g a b = some d) : Op2 K r g' :=
  ⟨fun T F σ G H δ v u a b d s rv ru e Q q => h.run _ F σ G H δ v u a b d s rv ru (i _ _ _ e) Q q⟩
def int2 (gd : Int → Int → D) : D → D → Option D
  | .int i, .int j => some (gd i j)
  | _, _ => none
def int2C (C : Int → Int → Prop) [∀ i j, Decidable (C i j)] (gd : Int → Int → D) : D → D → Option D
  | .int i, .int j => if C i j then some (gd i j) else none
  | _, _ => none
theorem op2_I0 {K : PySem.W.Frag} {g : Int → Int → V} {gd : Int → Int → D} (h : ∀ i j G, Rep K G (g i j) (gd i j)) : Op2 K (rI0 g) (int2 gd) := by
  refine ⟨fun T F σ G H δ v u a b d s rv ru e Q q => ?_⟩
  unfold int2 at e
  split at e
  · cases e
    cases rv
    cases ru
    exact ⟨_, _, rfl, rfl, q G H _ s (Same.refl _) (h _ _ _)⟩
  · cases e
theorem op2_I {K : PySem.W.Frag} {C : Int → Int → Prop} [∀ i j, Decidable (C i j)] {g : Int → Int → V} {gd : Int → Int → D} (h : ∀ i j G, Rep K G (g i j) (gd i j)) : Op2 K (rI C g) (int2C C gd) := by
  refine ⟨fun T F σ G H δ v u a b d s rv ru e Q q => ?_⟩
  unfold int2C at e
  split at e
  · split at e
    · rename_i hC
      cases e
      cases rv
      cases ru
      exact ⟨_, _, rfl, rfl, hC, q G H _ s (Same.refl _) (h _ _ _)⟩
    · cases e
  · cases e
instance (i j : Int) : Decidable (CMul i j) := by unfold CMul; infer_instance
instance (i j : Int) : Decidable (CDivN i j) := by unfold CDivN; infer_instance
instance (i j : Int) : Decidable (CPow i j) := by unfold CPow; infer_instance
theorem fe_op {op : Operator} {r : R2} {g : D → D → Option D} {a b : Expr} {fa fb : M D} {pos : Pos} (ho : ∀ X, In c X → OpR X (binaryOp op) r) (hr : Op2 c.K r g) (ha : FE c a fa) (hb : FE c b fb) : FE c (.BinOp a op b pos) (bin2 g fa fb) := by
  obtain ⟨ta, pa, sa⟩ := ha.ex
  obtain ⟨tb, pb, sb⟩ := hb.ex
  exact ⟨_, fun X h => pe_op (ho X h) (pa X h) (pb X h), Sp2.op2 hr sa sb⟩
def subD := int2 fun i j => .int (i - j)
def mulD := int2C CMul fun i j => .int (i * j)
def fdivD := int2C CDivN fun i j => .int (i.fdiv j)
def modD := int2C (fun _ j => 0 < j) fun i j => .int (i % j)
def powD := int2C CPow fun i j => .int (i ^ j.toNat)
theorem fe_sub {a b : Expr} {fa fb : M D} {pos : Pos} (ha : FE c a fa) (hb : FE c b fb) : FE c (.BinOp a .Sub b pos) (bin2 subD fa fb) := fe_op (fun _ _ => op_sub) (op2_I0 fun _ _ _ => .int _) ha hb
theorem fe_mul {a b : Expr} {fa fb : M D} {pos : Pos} (ha : FE c a fa) (hb : FE c b fb) : FE c (.BinOp a .Mult b pos) (bin2 mulD fa fb) := fe_op (fun _ _ => op_mul) (op2_I fun _ _ _ => .int _) ha hb
theorem fe_fdiv {a b : Expr} {fa fb : M D} {pos : Pos} (ha : FE c a fa) (hb : FE c b fb) : FE c (.BinOp a .FloorDiv b pos) (bin2 fdivD fa fb) := fe_op (fun _ _ => op_fdivN) (op2_I fun _ _ _ => .int _) ha hb
theorem fe_mod {a b : Expr} {fa fb : M D} {pos : Pos} (ha : FE c a fa) (hb : FE c b fb) : FE c (.BinOp a .Mod b pos) (bin2 modD fa fb) := fe_op (fun _ _ => op_mod) (op2_I fun _ _ _ => .int _) ha hb
theorem fe_pow {a b : Expr} {fa fb : M D} {pos : Pos} (ha : FE c a fa) (hb : FE c b fb) : FE c (.BinOp a .Pow b pos) (bin2 powD fa fb) := fe_op (fun _ _ => op_pow) (op2_I fun _ _ _ => .int _) ha hb
/-- + of ints, texts, lists -/
def strAdd : D → D → Option D
  | .str x, .str y => if x.length + y.length ≤ sizeLine then some (.str (x ++ y)) else none
  | _, _ => none
theorem op2_strAdd {K : PySem.W.Frag} : Op2 K (fun x y H Q => ∃ i j, x = V.str i ∧ y = V.str j ∧ i.length + j.length ≤ sizeLine ∧ Q (.str (i ++ j)) H) strAdd := by
  refine ⟨fun T F σ G H δ v u a b d s rv ru e Q q => ?_⟩
  unfold strAdd at e
  split at e
  · split at e
    · rename_i hC
      cases e
      cases rv
      cases ru
      exact ⟨_, _, rfl, rfl, hC, q G H _ s (Same.refl _) (.str _)⟩
    · cases e
  · cases e
def lstAdd : D → D → Option D
  | .lst x, .lst y => if x.length + y.length ≤ 1000000 then some (.lst (x ++ y)) else none
  | _, _ => none
theorem small6 {n : Nat} (h : n ≤ 1000000) : n ≤ sizeLine := by rw [sizeLine_eq]; omega
theorem op2_cat {K : PySem.W.Frag} : Op2 K rCat lstAdd := by
  refine ⟨fun T F σ G H δ v u a b d s rv ru e Q q => ?_⟩
  unfold lstAdd at e
  split at e
  · split at e
    · rename_i hC
      cases e
      cases rv with
      | lst h1 r1 =>
        cases ru with
        | lst h2 r2 =>
          refine ⟨_, _, _, _, rfl, rfl, s.sub _ _ h1, s.sub _ _ h2, by rw [r1.length, r2.length]; exact small6 hC, fun p hp => ?_⟩
          have gp := s.sub.free hp
          exact q _ _ _ (s.new hp) (same_upd gp) (.lst upd_same ((r1.mono (same_upd gp)).append (r2.mono (same_upd gp))))
    · cases e
  · cases e
def addD (a b : D) : Option D := (int2 (fun i j => .int (i + j)) a b).or ((strAdd a b).or (lstAdd a b))
theorem fe_add {a b : Expr} {fa fb : M D} {pos : Pos} (ha : FE c a fa) (hb : FE c b fb) : FE c (.BinOp a .Add b pos) (bin2 addD fa fb) :=
  fe_op (fun _ _ => op_add.or (op_add_str.or op_cat)) ((op2_I0 fun _ _ _ => .int _).or (op2_strAdd.or op2_cat)) ha hb
/-! unary minus -/
def negD : D → Option D
  | .int i => some (.int (-i))
  | _ => none
def un1 (g : D → Option D) (fa : M D) : M D := bindM fa fun x => liftO (g x)
theorem fe_neg {a : Expr} {fa : M D} {pos : Pos} (ha : FE c a fa) : FE c (.UnaryOp .USub a pos) (un1 negD fa) := by
  obtain ⟨ta, pa, sa⟩ := ha.ex
  refine ⟨_, fun X h => pe_un un_neg (pa X h), fun F σ G H δ r s e Q p => ?_⟩
  refine sa.step s e p fun G1 H1 δ1 x a s1 g1 rx e1 p1 => ?_
  obtain ⟨d, hd, rfl⟩ := liftO_eq e1
  cases a <;> cases hd
  cases rx
  exact ⟨_, rfl, p1 G1 H1 _ s1 (Same.refl _) (.int _)⟩

/-! ### comparisons -/
mutual
def toPy : D → Option PyData
  | .non => some .none
  | .bl b => some (.bool b)
  | .int i => some (.int i)
  | .str s => some (.str s)
  | .lst xs => (toPyL xs).map .list
  | .tup xs => (toPyL xs).map .tuple
  | .ins _ _ => none
  | .fn _ => none
def toPyL : List D → Option (List PyData)
  | [] => some []
  | x :: xs => match toPy x, toPyL xs with
    | some a, some b => some (a :: b)
    | _, _ => none
end
mutual
theorem Rep.dp {K : PySem.W.Frag} {G : Hp} : ∀ {d : D} {v : V} {p : PyData}, Rep K G v d → toPy d = some p → Dp K G v p
  | .non, _, _, h, e => by cases h; cases e; exact .non
  | .bl b, _, _, h, e => by cases h; cases e; exact .bl b
  | .int i, _, _, h, e => by cases h; cases e; exact .int i
  | .str x, _, _, h, e => by cases h; cases e; exact .str x
  | .lst xs, _, _, h, e => by
    cases h with
    | lst h1 h2 =>
      rw [toPy] at e
      cases q : toPyL xs with
      | none => rw [q] at e; cases e
      | some ps => rw [q] at e; cases e; exact .lst (.of h1) (RepL.dp h2 q)
  | .tup xs, _, _, h, e => by
    cases h with
    | tup h1 h2 =>
      rw [toPy] at e
      cases q : toPyL xs with
      | none => rw [q] at e; cases e
      | some ps => rw [q] at e; cases e; exact .tup h1 (RepL.dp h2 q)
  | .ins _ _, _, _, _, e => by cases e
  | .fn _, _, _, _, e => by cases e
theorem RepL.dp {K : PySem.W.Frag} {G : Hp} : ∀ {ds : List D} {vs : List V} {ps : List PyData}, RepL K G vs ds → toPyL ds = some ps → DpAll K G vs ps
  | [], _, _, h, e => by cases h; cases e; exact .nil
  | d :: ds, _, _, h, e => by
    cases h with
    | cons h1 h2 =>
      rw [toPyL] at e
      split at e
      · rename_i a b q1 q2
        cases e
        exact .cons (Rep.dp h1 q1) (RepL.dp h2 q2)
      · cases e
end
mutual
theorem dp_mono {K : PySem.W.Frag} {G G' : Hp} (e : Same G G') : ∀ {v : V} {d : PyData}, Dp K G v d → Dp K G' v d
  | _, _, .non => .non
  | _, _, .bl b => .bl b
  | _, _, .int i => .int i
  | _, _, .str x => .str x
  | _, _, .lst h r => .lst (e.seq h) (dpAll_mono e r)
  | _, _, .tup h r => .tup (seqT e h) (dpAll_mono e r)
theorem dpAll_mono {K : PySem.W.Frag} {G G' : Hp} (e : Same G G') : ∀ {v : List V} {d : List PyData}, DpAll K G v d → DpAll K G' v d
  | _, _, .nil => .nil
  | _, _, .cons h r => .cons (dp_mono e h) (dpAll_mono e r)
end
/-- == by value; none where it is not served -/
def eqB (a b : D) : Option Bool := match toPy a, toPy b with
  | some p, some q => if SeqAt.shaped p && SeqAt.shaped q then some (PyData.eqv p q) else none
  | _, _ => none
def eqD (a b : D) : Option D := (eqB a b).map .bl
def neD (a b : D) : Option D := (eqB a b).map fun k => .bl (!k)
theorem eqB_some {a b : D} {k : Bool} (h : eqB a b = some k) : ∃ p q, toPy a = some p ∧ toPy b = some q ∧ SeqAt.shaped p = true ∧ SeqAt.shaped q = true ∧ PyData.eqv p q = k := by
  unfold eqB at h
  split at h
  · rename_i p q h1 h2
    split at h
    · rename_i h3
      cases h
      rw [Bool.and_eq_true] at h3
      exact ⟨p, q, h1, h2, h3.1, h3.2, rfl⟩
    · cases h
  · cases h
theorem op2_eq {K : PySem.W.Frag} : Op2 K (rEqD K) eqD := by
  refine ⟨fun T F σ G H δ v u a b d s rv ru e Q q => ?_⟩
  unfold eqD at e
  cases h : eqB a b with
  | none => rw [h] at e; cases e
  | some k =>
    rw [h] at e
    cases e
    obtain ⟨p, p', h1, h2, h3, h4, h5⟩ := eqB_some h
    exact ⟨p, p', dp_mono s.sub (rv.dp h1), dp_mono s.sub (ru.dp h2), h3, h4, q G H _ s (Same.refl _) (h5 ▸ .bl _)⟩
theorem op2_ne {K : PySem.W.Frag} : Op2 K (rNeD K) neD := by
  refine ⟨fun T F σ G H δ v u a b d s rv ru e Q q => ?_⟩
  unfold neD at e
  cases h : eqB a b with
  | none => rw [h] at e; cases e
  | some k =>
    rw [h] at e
    cases e
    obtain ⟨p, p', h1, h2, h3, h4, h5⟩ := eqB_some h
    exact ⟨p, p', dp_mono s.sub (rv.dp h1), dp_mono s.sub (ru.dp h2), h3, h4, q G H _ s (Same.refl _) (h5 ▸ .bl _)⟩
def ltD := int2 fun i j => .bl (decide (i < j))
def leD := int2 fun i j => .bl (decide (i ≤ j))
def gtD := int2 fun i j => .bl (decide (j < i))
def geD := int2 fun i j => .bl (decide (j ≤ i))
def isN (neg : Bool) : D → D → Option D
  | .non, .non => some (.bl (!neg))
  | _, .non => some (.bl neg)
  | _, _ => none
theorem op2_isN {K : PySem.W.Frag} : Op2 K (fun x y H Q => y = V.non ∧ Q (.bl (decide (x = .non))) H) (isN false) := by
  refine ⟨fun T F σ G H δ v u a b d s rv ru e Q q => ?_⟩
  unfold isN at e
  split at e
  · cases e; cases rv; cases ru; exact ⟨rfl, q G H _ s (Same.refl _) (.bl _)⟩
  · rename_i hn
    cases e; cases ru
    refine ⟨rfl, q G H _ s (Same.refl _) ?_⟩
    have : v ≠ V.non := by rintro rfl; cases rv; exact hn rfl
    rw [decide_eq_false this]
    exact .bl _
  · cases e
theorem op2_notN {K : PySem.W.Frag} : Op2 K (fun x y H Q => y = V.non ∧ Q (.bl (!decide (x = .non))) H) (isN true) := by
  refine ⟨fun T F σ G H δ v u a b d s rv ru e Q q => ?_⟩
  unfold isN at e
  split at e
  · cases e; cases rv; cases ru; exact ⟨rfl, q G H _ s (Same.refl _) (.bl _)⟩
  · rename_i hn
    cases e; cases ru
    refine ⟨rfl, q G H _ s (Same.refl _) ?_⟩
    have : v ≠ V.non := by rintro rfl; cases rv; exact hn rfl
    rw [decide_eq_false this]
    exact .bl _
  · cases e
/-- in of flat values -/
def flatOf : D → Option V
  | .non => some .non
  | .bl b => some (.bl b)
  | .int i => some (.int i)
  | .str x => some (.str x)
  | _ => none
theorem Rep.flat {K : PySem.W.Frag} {G : Hp} {v w : V} {d : D} (r : Rep K G v d) (h : flatOf d = some w) : v = w ∧ flatV w = true := by
  cases d <;> simp only [flatOf, Option.some.injEq, reduceCtorEq] at h
  all_goals (subst h; cases r; exact ⟨rfl, rfl⟩)
def flatL : List D → Option (List V)
  | [] => some []
  | x :: xs => match flatOf x, flatL xs with
    | some a, some b => some (a :: b)
    | _, _ => none
theorem RepL.flat {K : PySem.W.Frag} {G : Hp} : ∀ {vs ws : List V} {ds : List D}, RepL K G vs ds → flatL ds = some ws → vs = ws ∧ ws.all flatV = true
  | _, _, [], .nil, e => by cases e; exact ⟨rfl, rfl⟩
  | _, _, d :: ds, .cons h t, e => by
    rw [flatL] at e
    split at e
    · rename_i a b q1 q2
      cases e
      obtain ⟨rfl, h1⟩ := h.flat q1
      obtain ⟨rfl, h2⟩ := RepL.flat t q2
      exact ⟨rfl, by simp only [List.all_cons, h1, h2, Bool.and_self]⟩
    · cases e
def inB (a b : D) : Option Bool := match flatOf a with
  | none => none
  | some x => match b with
    | .lst ds => (flatL ds).map fun ws => inV x ws
    | .tup ds => (flatL ds).map fun ws => inV x ws
    | _ => none
def inD (neg : Bool) (a b : D) : Option D := (inB a b).map fun k => .bl (if neg then !k else k)
theorem op2_in {K : PySem.W.Frag} (neg : Bool) : Op2 K (rIn K neg) (inD neg) := by
  refine ⟨fun T F σ G H δ v u a b d s rv ru e Q q => ?_⟩
  unfold inD at e
  cases h : inB a b with
  | none => rw [h] at e; cases e
  | some k =>
    rw [h] at e
    cases e
    unfold inB at h
    cases h1 : flatOf a with
    | none => rw [h1] at h; cases h
    | some x =>
      rw [h1] at h
      obtain ⟨rfl, f1⟩ := rv.flat h1
      cases b with
      | lst ds =>
        dsimp only at h
        cases h2 : flatL ds with
        | none => rw [h2] at h; cases h
        | some ws =>
          rw [h2] at h
          cases h
          cases ru with
          | lst g1 r1 =>
            obtain ⟨rfl, f2⟩ := r1.flat h2
            exact ⟨_, _, rfl, .inl (.of (s.sub _ _ g1)), f1, f2, q G H _ s (Same.refl _) (.bl _)⟩
      | tup ds =>
        dsimp only at h
        cases h2 : flatL ds with
        | none => rw [h2] at h; cases h
        | some ws =>
          rw [h2] at h
          cases h
          cases ru with
          | tup g1 r1 =>
            obtain ⟨rfl, f2⟩ := r1.flat h2
            exact ⟨_, _, rfl, .inr (seqT s.sub g1), f1, f2, q G H _ s (Same.refl _) (.bl _)⟩
      | _ => cases h
theorem fe_cmp {op : CmpOp} {r : R2} {g : D → D → Option D} {a b : Expr} {fa fb : M D} {pos : Pos} (ho : ∀ X, In c X → OpR X (compareOp op) r) (hr : Op2 c.K r g) (ha : FE c a fa) (hb : FE c b fb) (hm : behindInMarks op b = false) : FE c (.Compare a [op] [b] pos) (bin2 g fa fb) := by
  obtain ⟨ta, pa, sa⟩ := ha.ex
  obtain ⟨tb, pb, sb⟩ := hb.ex
  exact ⟨_, fun X h => pe_cmpR (ho X h) (pa X h) (pb X h) hm, Sp2.op2 hr sa sb⟩
def toB : D → Option Bool
  | .bl b => some b
  | _ => none
theorem ft_cmp {op : CmpOp} {r : R2} {g : D → D → Option D} {a b : Expr} {fa fb : M D} {pos : Pos} (ho : ∀ X, In c X → OpR X (compareOp op) r) (hr : Op2 c.K r g) (ha : FE c a fa) (hb : FE c b fb) (hm : behindInMarks op b = false) : FT c (.Compare a [op] [b] pos) (bindM (bin2 g fa fb) fun d => liftO (toB d)) := by
  obtain ⟨ta, pa, sa⟩ := ha.ex
  obtain ⟨tb, pb, sb⟩ := hb.ex
  refine ⟨_, fun X h => pt_cmpR (ho X h) (pa X h) (pb X h) hm, fun F σ G H δ r s e Q p => ?_⟩
  refine (Sp2.op2 hr sa sb).step s e p fun G1 H1 δ1 x d s1 g1 rx e1 p1 => ?_
  obtain ⟨k, hk, rfl⟩ := liftO_eq e1
  cases d <;> cases hk
  cases rx
  exact ⟨_, rfl, p1 G1 H1 _ s1 (Same.refl _) rfl⟩
theorem In.units {c : SC} {X : Cx} (h : In c X) : X.A.units + 64 < cLine := h.room.units
section
variable {a b d : Expr} {fa fb fd : M D} {pos : Pos}
theorem fe_eq (ha : FE c a fa) (hb : FE c b fb) : FE c (.Compare a [.Eq] [b] pos) (bin2 eqD fa fb) := fe_cmp (fun X h => by have := op_eqD (X := X) h.units; rwa [h.K] at this) op2_eq ha hb (nomark _)
theorem fe_ne (ha : FE c a fa) (hb : FE c b fb) : FE c (.Compare a [.NotEq] [b] pos) (bin2 neD fa fb) := fe_cmp (fun X h => by have := op_neD (X := X) h.units; rwa [h.K] at this) op2_ne ha hb (nomark _)
theorem fe_lt (ha : FE c a fa) (hb : FE c b fb) : FE c (.Compare a [.Lt] [b] pos) (bin2 ltD fa fb) := fe_cmp (fun X h => op_lt) (op2_I0 fun _ _ _ => .bl _) ha hb (nomark _)
theorem fe_le (ha : FE c a fa) (hb : FE c b fb) : FE c (.Compare a [.LtE] [b] pos) (bin2 leD fa fb) := fe_cmp (fun X h => op_le) (op2_I0 fun _ _ _ => .bl _) ha hb (nomark _)
theorem fe_gt (ha : FE c a fa) (hb : FE c b fb) : FE c (.Compare a [.Gt] [b] pos) (bin2 gtD fa fb) := fe_cmp (fun X h => op_gt) (op2_I0 fun _ _ _ => .bl _) ha hb (nomark _)
theorem fe_ge (ha : FE c a fa) (hb : FE c b fb) : FE c (.Compare a [.GtE] [b] pos) (bin2 geD fa fb) := fe_cmp (fun X h => op_ge) (op2_I0 fun _ _ _ => .bl _) ha hb (nomark _)
theorem fe_is (ha : FE c a fa) (hb : FE c b fb) : FE c (.Compare a [.Is] [b] pos) (bin2 (isN false) fa fb) := fe_cmp (fun X h => op_isN) op2_isN ha hb (nomark _)
theorem fe_isnot (ha : FE c a fa) (hb : FE c b fb) : FE c (.Compare a [.IsNot] [b] pos) (bin2 (isN true) fa fb) := fe_cmp (fun X h => op_notN) op2_notN ha hb (nomark _)
theorem fe_in (ha : FE c a fa) (hb : FE c b fb) (hm : behindInMarks .In b = false := by rfl) : FE c (.Compare a [.In] [b] pos) (bin2 (inD false) fa fb) := fe_cmp (fun X h => by have := op_in_seq (X := X); rwa [h.K] at this) (op2_in false) ha hb hm
theorem fe_notin (ha : FE c a fa) (hb : FE c b fb) (hm : behindInMarks .NotIn b = false := by rfl) : FE c (.Compare a [.NotIn] [b] pos) (bin2 (inD true) fa fb) := fe_cmp (fun X h => by have := op_notIn_seq (X := X); rwa [h.K] at this) (op2_in true) ha hb hm
def tst (f : M D) : M Bool := bindM f fun d => liftO (toB d)
theorem ft_eq (ha : FE c a fa) (hb : FE c b fb) : FT c (.Compare a [.Eq] [b] pos) (tst (bin2 eqD fa fb)) := ft_cmp (fun X h => by have := op_eqD (X := X) h.units; rwa [h.K] at this) op2_eq ha hb (nomark _)
theorem ft_ne (ha : FE c a fa) (hb : FE c b fb) : FT c (.Compare a [.NotEq] [b] pos) (tst (bin2 neD fa fb)) := ft_cmp (fun X h => by have := op_neD (X := X) h.units; rwa [h.K] at this) op2_ne ha hb (nomark _)
theorem ft_lt (ha : FE c a fa) (hb : FE c b fb) : FT c (.Compare a [.Lt] [b] pos) (tst (bin2 ltD fa fb)) := ft_cmp (fun X h => op_lt) (op2_I0 fun _ _ _ => .bl _) ha hb (nomark _)
theorem ft_le (ha : FE c a fa) (hb : FE c b fb) : FT c (.Compare a [.LtE] [b] pos) (tst (bin2 leD fa fb)) := ft_cmp (fun X h => op_le) (op2_I0 fun _ _ _ => .bl _) ha hb (nomark _)
theorem ft_gt (ha : FE c a fa) (hb : FE c b fb) : FT c (.Compare a [.Gt] [b] pos) (tst (bin2 gtD fa fb)) := ft_cmp (fun X h => op_gt) (op2_I0 fun _ _ _ => .bl _) ha hb (nomark _)
theorem ft_ge (ha : FE c a fa) (hb : FE c b fb) : FT c (.Compare a [.GtE] [b] pos) (tst (bin2 geD fa fb)) := ft_cmp (fun X h => op_ge) (op2_I0 fun _ _ _ => .bl _) ha hb (nomark _)
theorem ft_is (ha : FE c a fa) (hb : FE c b fb) : FT c (.Compare a [.Is] [b] pos) (tst (bin2 (isN false) fa fb)) := ft_cmp (fun X h => op_isN) op2_isN ha hb (nomark _)
theorem ft_isnot (ha : FE c a fa) (hb : FE c b fb) : FT c (.Compare a [.IsNot] [b] pos) (tst (bin2 (isN true) fa fb)) := ft_cmp (fun X h => op_notN) op2_notN ha hb (nomark _)
theorem ft_in (ha : FE c a fa) (hb : FE c b fb) (hm : behindInMarks .In b = false := by rfl) : FT c (.Compare a [.In] [b] pos) (tst (bin2 (inD false) fa fb)) := ft_cmp (fun X h => by have := op_in_seq (X := X); rwa [h.K] at this) (op2_in false) ha hb hm
theorem ft_notin (ha : FE c a fa) (hb : FE c b fb) (hm : behindInMarks .NotIn b = false := by rfl) : FT c (.Compare a [.NotIn] [b] pos) (tst (bin2 (inD true) fa fb)) := ft_cmp (fun X h => by have := op_notIn_seq (X := X); rwa [h.K] at this) (op2_in true) ha hb hm
/-- a < b < c -/
def chainM (g g' : D → D → Option D) (fa fb fc : M D) : M D := bindM fa fun x => bindM fb fun y => bindM (liftO (g x y)) fun z => bindM (liftO (toB z)) fun k => if k then bindM fc fun w => liftO (g' y w) else pureM (.bl false)
theorem Sp2.chain {K : PySem.W.Frag} {T : List (Addr × PySem.Str)} {cl : Nat → Addr} {E : XK} {r r' : R2} {g g' : D → D → Option D} {ta tb tc : TE} {fa fb fc : M D} (hr : Op2 K r g) (hr' : Op2 K r' g') (ha : Sp2 (K, T) cl E (Rep K) ta fa) (hb : Sp2 (K, T) cl E (Rep K) tb fb) (hc : Sp2 (K, T) cl E (Rep K) tc fc) :
    Sp2 (K, T) cl E (Rep K) (tChain r r' ta tb tc) (chainM g g' fa fb fc) := by
  intro F σ G H δ r s e Q p
  refine ha.step s e p fun G1 H1 δ1 x a s1 g1 rx e1 p1 => ?_
  refine hb.step s1 e1 p1 fun G2 H2 δ2 y b s2 g2 ry e2 p2 => ?_
  cases h1 : g a b with
  | none => rw [h1] at e2; cases e2
  | some z =>
    rw [h1, liftO_some, bindM_pure] at e2
    refine hr.run _ F σ G2 H2 δ2 x y a b z s2 (rx.mono g2) ry h1 _ fun G3 H3 w s3 g3 rw3 => ?_
    cases z <;> try (cases e2)
    rename_i k
    cases rw3
    refine ⟨k, rfl, ?_⟩
    rw [show toB (.bl k) = some k from rfl, liftO_some, bindM_pure] at e2
    cases k with
    | false =>
      rw [if_neg Bool.false_ne_true]
      rw [if_neg Bool.false_ne_true] at e2
      cases e2
      exact p2 G3 H3 _ s3 g3 (.bl _)
    | true =>
      rw [if_pos rfl]
      rw [if_pos rfl] at e2
      refine hc.step s3 e2 (p2.weak g3) fun G4 H4 δ4 w' d s4 g4 rd e4 p4 => ?_
      obtain ⟨d', hd', rfl⟩ := liftO_eq e4
      exact hr'.run _ F σ G4 H4 δ4 y w' b d d' s4 (ry.mono (g3.trans g4)) rd hd' Q fun G' H' w s' g' rw' => p4 G' H' w s' g' rw'
theorem fe_chain {op op' : CmpOp} {r r' : R2} {g g' : D → D → Option D} (ho : ∀ X, In c X → OpR X (compareOp op) r) (ho' : ∀ X, In c X → OpR X (compareOp op') r') (hr : Op2 c.K r g) (hr' : Op2 c.K r' g') (ha : FE c a fa) (hb : FE c b fb) (hd : FE c d fd)
    (hm : lastMarks [op, op'] [b, d] = false) : FE c (.Compare a [op, op'] [b, d] pos) (chainM g g' fa fb fd) := by
  obtain ⟨ta, pa, sa⟩ := ha.ex
  obtain ⟨tb, pb, sb⟩ := hb.ex
  obtain ⟨td, pd, sd⟩ := hd.ex
  exact ⟨_, fun X h => pe_chain (ho X h) (ho' X h) (pa X h) (pb X h) (pd X h) hm, Sp2.chain hr hr' sa sb sd⟩
theorem ft_chain {op op' : CmpOp} {r r' : R2} {g g' : D → D → Option D} (ho : ∀ X, In c X → OpR X (compareOp op) r) (ho' : ∀ X, In c X → OpR X (compareOp op') r') (hr : Op2 c.K r g) (hr' : Op2 c.K r' g') (ha : FE c a fa) (hb : FE c b fb) (hd : FE c d fd)
    (hm : lastMarks [op, op'] [b, d] = false) : FT c (.Compare a [op, op'] [b, d] pos) (tst (chainM g g' fa fb fd)) := by
  obtain ⟨ta, pa, sa⟩ := ha.ex
  obtain ⟨tb, pb, sb⟩ := hb.ex
  obtain ⟨td, pd, sd⟩ := hd.ex
  refine ⟨_, fun X h => pt_chain (ho X h) (ho' X h) (pa X h) (pb X h) (pd X h) hm, fun F σ G H δ r s e Q p => ?_⟩
  refine (Sp2.chain hr hr' sa sb sd).step s e p fun G1 H1 δ1 x d s1 g1 rx e1 p1 => ?_
  obtain ⟨k, hk, rfl⟩ := liftO_eq e1
  cases d <;> cases hk
  cases rx
  exact ⟨_, rfl, p1 G1 H1 _ s1 (Same.refl _) rfl⟩
theorem fe_lele (ha : FE c a fa) (hb : FE c b fb) (hd : FE c d fd) (hm : lastMarks [.LtE, .LtE] [b, d] = false := by with_unfolding_all rfl) : FE c (.Compare a [.LtE, .LtE] [b, d] pos) (chainM leD leD fa fb fd) := fe_chain (fun _ _ => op_le) (fun _ _ => op_le) (op2_I0 fun _ _ _ => .bl _) (op2_I0 fun _ _ _ => .bl _) ha hb hd hm
theorem ft_lele (ha : FE c a fa) (hb : FE c b fb) (hd : FE c d fd) (hm : lastMarks [.LtE, .LtE] [b, d] = false := by with_unfolding_all rfl) : FT c (.Compare a [.LtE, .LtE] [b, d] pos) (tst (chainM leD leD fa fb fd)) := ft_chain (fun _ _ => op_le) (fun _ _ => op_le) (op2_I0 fun _ _ _ => .bl _) (op2_I0 fun _ _ _ => .bl _) ha hb hd hm
theorem fe_lelt (ha : FE c a fa) (hb : FE c b fb) (hd : FE c d fd) (hm : lastMarks [.LtE, .Lt] [b, d] = false := by with_unfolding_all rfl) : FE c (.Compare a [.LtE, .Lt] [b, d] pos) (chainM leD ltD fa fb fd) := fe_chain (fun _ _ => op_le) (fun _ _ => op_lt) (op2_I0 fun _ _ _ => .bl _) (op2_I0 fun _ _ _ => .bl _) ha hb hd hm
theorem ft_lelt (ha : FE c a fa) (hb : FE c b fb) (hd : FE c d fd) (hm : lastMarks [.LtE, .Lt] [b, d] = false := by with_unfolding_all rfl) : FT c (.Compare a [.LtE, .Lt] [b, d] pos) (tst (chainM leD ltD fa fb fd)) := ft_chain (fun _ _ => op_le) (fun _ _ => op_lt) (op2_I0 fun _ _ _ => .bl _) (op2_I0 fun _ _ _ => .bl _) ha hb hd hm
theorem ft_ltlt (ha : FE c a fa) (hb : FE c b fb) (hd : FE c d fd) (hm : lastMarks [.Lt, .Lt] [b, d] = false := by with_unfolding_all rfl) : FT c (.Compare a [.Lt, .Lt] [b, d] pos) (tst (chainM ltD ltD fa fb fd)) := ft_chain (fun _ _ => op_lt) (fun _ _ => op_lt) (op2_I0 fun _ _ _ => .bl _) (op2_I0 fun _ _ _ => .bl _) ha hb hd hm

/-! ### and, or, not; tests; x if t else y -/
theorem fe_one {op : BoolOp} (ha : FE c a fa) : FE c (.BoolOp op [a] pos) fa := by
  obtain ⟨ta, pa, sa⟩ := ha.ex
  exact ⟨ta, fun X h => pe_one (pa X h), sa⟩
def andM (fa fb : M D) : M D := bindM fa fun x => bindM (liftO (toB x)) fun k => if k then fb else pureM (.bl false)
def orM (fa fb : M D) : M D := bindM fa fun x => bindM (liftO (toB x)) fun k => if k then pureM (.bl true) else fb
theorem fe_and {rest : List Expr} (ha : FE c a fa) (hb : FE c (.BoolOp .And (b :: rest) pos) fb) : FE c (.BoolOp .And (a :: b :: rest) pos) (andM fa fb) := by
  obtain ⟨ta, pa, sa⟩ := ha.ex
  obtain ⟨tb, pb, sb⟩ := hb.ex
  refine ⟨_, fun X h => pe_and (pa X h) (pb X h), fun F σ G H δ r s e Q p => ?_⟩
  refine sa.step s e p fun G1 H1 δ1 x d s1 g1 rx e1 p1 => ?_
  cases d <;> try (cases e1)
  rename_i k
  cases rx
  refine ⟨k, rfl, ?_⟩
  rw [show toB (.bl k) = some k from rfl, liftO_some, bindM_pure] at e1
  cases k with
  | false => cases e1; rw [if_neg Bool.false_ne_true]; exact p1 G1 H1 _ s1 (Same.refl _) (.bl _)
  | true => rw [if_pos rfl]; exact sb F σ G1 H1 δ1 r s1 e1 Q p1
theorem fe_or {rest : List Expr} (ha : FE c a fa) (hb : FE c (.BoolOp .Or (b :: rest) pos) fb) : FE c (.BoolOp .Or (a :: b :: rest) pos) (orM fa fb) := by
  obtain ⟨ta, pa, sa⟩ := ha.ex
  obtain ⟨tb, pb, sb⟩ := hb.ex
  refine ⟨_, fun X h => pe_or (pa X h) (pb X h), fun F σ G H δ r s e Q p => ?_⟩
  refine sa.step s e p fun G1 H1 δ1 x d s1 g1 rx e1 p1 => ?_
  cases d <;> try (cases e1)
  rename_i k
  cases rx
  refine ⟨k, rfl, ?_⟩
  rw [show toB (.bl k) = some k from rfl, liftO_some, bindM_pure] at e1
  cases k with
  | true => cases e1; rw [if_pos rfl]; exact p1 G1 H1 _ s1 (Same.refl _) (.bl _)
  | false => rw [if_neg Bool.false_ne_true]; exact sb F σ G1 H1 δ1 r s1 e1 Q p1
def notM (fa : M D) : M D := bindM fa fun x => bindM (liftO (toB x)) fun k => pureM (.bl (!k))
theorem fe_not (ha : FE c a fa) : FE c (.UnaryOp .Not a pos) (notM fa) := by
  obtain ⟨ta, pa, sa⟩ := ha.ex
  refine ⟨_, fun X h => pe_not (pa X h), fun F σ G H δ r s e Q p => ?_⟩
  refine sa.step s e p fun G1 H1 δ1 x d s1 g1 rx e1 p1 => ?_
  cases d <;> try (cases e1)
  rename_i k
  cases rx
  exact ⟨k, rfl, p1 G1 H1 _ s1 (Same.refl _) (.bl _)⟩
theorem ft_val (ha : FE c a fa) (he : ∀ (env : Env) whole, isTrue a env whole = (do let v ← whole; standAt a.pos; holding [v] (truthy v)) := by intro _ _; rfl) : FT c a (tst fa) := by
  obtain ⟨ta, pa, sa⟩ := ha.ex
  refine ⟨_, fun X h => pt_val (pa X h) (he _), fun F σ G H δ r s e Q p => ?_⟩
  refine sa.step s e p fun G1 H1 δ1 x d s1 g1 rx e1 p1 => ?_
  cases d <;> try (cases e1)
  rename_i k
  cases rx
  exact ⟨k, rfl, p1 G1 H1 _ s1 (Same.refl _) rfl⟩
theorem ft_not {f : M Bool} (ha : FT c a f) : FT c (.UnaryOp .Not a pos) (bindM f fun k => pureM (!k)) := by
  obtain ⟨ta, pa, sa⟩ := ha.ex
  refine ⟨_, fun X h => pt_not (pa X h), fun F σ G H δ r s e Q p => ?_⟩
  refine sa.step s e p fun G1 H1 δ1 x d s1 g1 rx e1 p1 => ?_
  cases e1
  cases rx
  exact p1 G1 H1 _ s1 (Same.refl _) rfl
theorem fw_and1 {f : M Bool} (ha : FT c a f) : FW c (.BoolOp .And [a] pos) f := by
  obtain ⟨ta, pa, sa⟩ := ha.ex
  exact ⟨_, fun X h => pw_and1 (pa X h), sa⟩
theorem fw_or1 {f : M Bool} (ha : FT c a f) : FW c (.BoolOp .Or [a] pos) f := by
  obtain ⟨ta, pa, sa⟩ := ha.ex
  exact ⟨_, fun X h => pw_or1 (pa X h), sa⟩
def andT (f g : M Bool) : M Bool := bindM f fun k => if k then g else pureM false
def orT (f g : M Bool) : M Bool := bindM f fun k => if k then pureM true else g
theorem fw_and {rest : List Expr} {f g : M Bool} (ha : FT c a f) (hb : FW c (.BoolOp .And (b :: rest) pos) g) : FW c (.BoolOp .And (a :: b :: rest) pos) (andT f g) := by
  obtain ⟨ta, pa, sa⟩ := ha.ex
  obtain ⟨tb, pb, sb⟩ := hb.ex
  refine ⟨_, fun X h => pw_and (pa X h) (pb X h), fun F σ G H δ r s e Q p => ?_⟩
  refine sa.step s e p fun G1 H1 δ1 x k s1 g1 rx e1 p1 => ?_
  have ek : x = k := rx
  subst ek
  cases x with
  | false => cases e1; rw [if_neg Bool.false_ne_true]; exact p1 G1 H1 _ s1 (Same.refl _) rfl
  | true => rw [if_pos rfl]; exact sb F σ G1 H1 δ1 r s1 e1 Q p1
theorem fw_or {rest : List Expr} {f g : M Bool} (ha : FT c a f) (hb : FW c (.BoolOp .Or (b :: rest) pos) g) : FW c (.BoolOp .Or (a :: b :: rest) pos) (orT f g) := by
  obtain ⟨ta, pa, sa⟩ := ha.ex
  obtain ⟨tb, pb, sb⟩ := hb.ex
  refine ⟨_, fun X h => pw_or (pa X h) (pb X h), fun F σ G H δ r s e Q p => ?_⟩
  refine sa.step s e p fun G1 H1 δ1 x k s1 g1 rx e1 p1 => ?_
  have ek : x = k := rx
  subst ek
  cases x with
  | true => cases e1; rw [if_pos rfl]; exact p1 G1 H1 _ s1 (Same.refl _) rfl
  | false => rw [if_neg Bool.false_ne_true]; exact sb F σ G1 H1 δ1 r s1 e1 Q p1
theorem ft_w {f : M Bool} (ha : FW c a f) : FT c a f := by
  obtain ⟨ta, pa, sa⟩ := ha.ex
  exact ⟨_, fun X h => (pa X h).pt, sa⟩
def iteM {α : Type} (f : M Bool) (x y : M α) : M α := bindM f fun k => if k then x else y
theorem fe_ite {f : M Bool} (hd : FT c d f) (ha : FE c a fa) (hb : FE c b fb) : FE c (.IfExp d a b pos) (iteM f fa fb) := by
  obtain ⟨td, pd, sd⟩ := hd.ex
  obtain ⟨ta, pa, sa⟩ := ha.ex
  obtain ⟨tb, pb, sb⟩ := hb.ex
  refine ⟨_, fun X h => pe_ifExp (pd X h) (pa X h) (pb X h), fun F σ G H δ r s e Q p => ?_⟩
  refine sd.step s e p fun G1 H1 δ1 x k s1 g1 rx e1 p1 => ?_
  have ek : x = k := rx
  subst ek
  cases x with
  | true => rw [if_pos rfl]; exact sa F σ G1 H1 δ1 r s1 e1 Q p1
  | false => rw [if_neg Bool.false_ne_true]; exact sb F σ G1 H1 δ1 r s1 e1 Q p1
end

/-! ### argument lists, displays -/
section
variable {e : Expr} {es : List Expr} {f : M D} {g : M (List D)} {pos : Pos}
theorem fa_nil : FA c [] (pureM []) := ⟨_, fun _ _ => pa_nil, Sp2.pure fun _ => .nil⟩
def consM (f : M D) (g : M (List D)) : M (List D) := bindM f fun x => bindM g fun r => pureM (x :: r)
theorem fa_cons (he : FE c e f) (hr : FA c es g) (hs : ∀ env : Env, starEach (e :: es) env = (false, eval e env) :: starEach es env := by intro _; rfl) : FA c (e :: es) (consM f g) := by
  obtain ⟨ta, pa, sa⟩ := he.ex
  obtain ⟨tb, pb, sb⟩ := hr.ex
  refine ⟨_, fun X h => pa_cons (pa X h) (pb X h) (hs _), fun F σ G H δ r s e Q p => ?_⟩
  refine sa.step s e p fun G1 H1 δ1 x d s1 g1 rx e1 p1 => ?_
  refine sb.step s1 e1 p1 fun G2 H2 δ2 y ds s2 g2 ry e2 p2 => ?_
  cases e2
  exact p2 G2 H2 _ s2 (Same.refl _) (.cons (rx.mono g2) ry)
def tupM (f : M (List D)) : M D := bindM f fun ds => if ds.length ≤ 1000000 then pureM (.tup ds) else fun _ => none
def lstM (f : M (List D)) : M D := bindM f fun ds => if ds.length ≤ 1000000 then pureM (.lst ds) else fun _ => none
theorem fe_tup {x1} (h : FA c es g) : FE c (.Tuple es x1 pos) (tupM g) := by
  obtain ⟨ta, pa, sa⟩ := h.ex
  refine ⟨_, fun X h => pe_tup (pa X h), fun F σ G H δ r s e Q p => ?_⟩
  refine sa.step s e p fun G1 H1 δ1 xs ds s1 g1 rx e1 p1 => ?_
  split at e1
  · rename_i hl
    cases e1
    refine ⟨by rw [rx.length]; exact small6 hl, fun q hq => ?_⟩
    have gp := s1.sub.free hq
    exact p1 _ _ _ (s1.new hq) (same_upd gp) (.tup (.of upd_same) (rx.mono (same_upd gp)))
  · cases e1
theorem fe_lst (h : FA c es g) : FE c (.List es pos) (lstM g) := by
  obtain ⟨ta, pa, sa⟩ := h.ex
  refine ⟨_, fun X h => pe_lst (pa X h), fun F σ G H δ r s e Q p => ?_⟩
  refine sa.step s e p fun G1 H1 δ1 xs ds s1 g1 rx e1 p1 => ?_
  split at e1
  · rename_i hl
    cases e1
    refine ⟨by rw [rx.length]; exact small6 hl, fun q hq => ?_⟩
    have gp := s1.sub.free hq
    exact p1 _ _ _ (s1.new hq) (same_upd gp) (.lst upd_same (rx.mono (same_upd gp)))
  · cases e1
end
end
end FL

set_option Elab.async false
set_option linter.all false
set_option maxRecDepth 100000
set_option maxHeartbeats 2000000
/-! FL3: built-ins, subscripts, slices; calls of defs. -/
namespace FL
open PySem PySem.Spec PyProof.Rows L2
abbrev Gb (c : SC) (x : Str) : Prop := c.sc.names.lookup x = some .globalImplicit
section
variable {c : SC}
/-! ### subscripts -/
theorem RepL.atI {K : PySem.W.Frag} {G : Hp} {vs : List V} {ds : List D} {i : Int} {d : D} (r : RepL K G vs ds) (h : atI ds i = some d) : ∃ v, L2.atI vs i = some v ∧ Rep K G v d := by
  unfold L2.atI at h ⊢
  rw [r.length]
  cases e : ixN ds.length i with
  | none => rw [e] at h; cases h
  | some j =>
    rw [e] at h
    obtain ⟨v, h1, h2⟩ := r.get (show ds[j]? = some d from h)
    exact ⟨v, h1, h2⟩
def ixD : D → D → Option D
  | .lst ds, .int i => atI ds i
  | .tup ds, .int i => atI ds i
  | .str z, .int i => if z.length ≤ sizeLine then (atI z.cps.toList i).map fun k => .str ⟨#[k]⟩ else none
  | _, _ => none
theorem op2_ix {K : PySem.W.Frag} : Op2 K (rIx K) ixD := by
  refine ⟨fun T F σ G H δ v u a b d s rv ru e Q q => ?_⟩
  unfold ixD at e
  split at e
  · rename_i ds i
    cases ru
    cases rv with
    | lst h1 h2 =>
      obtain ⟨w, e1, e2⟩ := h2.atI e
      exact .inl ⟨_, _, i, w, rfl, rfl, .of (s.sub _ _ h1), e1, q G H _ s (Same.refl _) e2⟩
  · rename_i ds i
    cases ru
    cases rv with
    | tup h1 h2 =>
      obtain ⟨w, e1, e2⟩ := h2.atI e
      exact .inr (.inl ⟨_, _, i, w, rfl, rfl, seqT s.sub h1, e1, q G H _ s (Same.refl _) e2⟩)
  · rename_i z i
    cases ru
    cases rv
    split at e
    · rename_i hz
      cases h : atI z.cps.toList i with
      | none => rw [h] at e; cases e
      | some k =>
        rw [h] at e
        cases e
        exact .inr (.inr ⟨z, i, k, rfl, rfl, hz, h, q G H _ s (Same.refl _) (.str _)⟩)
    · cases e
  · cases e
theorem fe_ix {a b : Expr} {fa fb : M D} {pos : Pos} (ha : FE c a fa) (hb : FE c b fb) (hs : PlainIx b := by intro _ _; rfl) : FE c (.Subscript a b pos) (bin2 ixD fa fb) := by
  obtain ⟨ta, pa, sa⟩ := ha.ex
  obtain ⟨tb, pb, sb⟩ := hb.ex
  exact ⟨_, fun X h => by have := pe_ix (X := X) (pos := pos) ix_seq (pa X h) (pb X h) hs; rwa [h.K] at this, Sp2.op2 op2_ix sa sb⟩
/-! ### slices -/
structure FO (c : SC) (e : Option Expr) (f : M (Option Int)) : Prop where
  ex : ∃ t, (∀ X, In c X → PO X e t) ∧ Sp2 c.κ c.cl c.E (fun _ (o o' : Option Int) => o = o') t f
theorem fo_none : FO c none (pureM none) := ⟨_, fun _ _ => po_none, Sp2.pure fun _ => rfl⟩
def intM (f : M D) : M (Option Int) := bindM f fun d => match d with | .int i => pureM (some i) | _ => fun _ => none
theorem fo_some {e : Expr} {f : M D} (h : FE c e f) : FO c (some e) (intM f) := by
  obtain ⟨ta, pa, sa⟩ := h.ex
  refine ⟨_, fun X h => po_some (pa X h), fun F σ G H δ r s e Q p => ?_⟩
  refine sa.step s e p fun G1 H1 δ1 x d s1 g1 rx e1 p1 => ?_
  cases d <;> try (cases e1)
  rename_i i
  cases rx
  exact ⟨i, rfl, p1 G1 H1 _ s1 (Same.refl _) rfl⟩
def cutL {α : Type} (xs : List α) (lo hi : Option Int) : List α := (xs.drop (HT.sIx xs.length 0 lo)).take (HT.sIx xs.length xs.length hi - HT.sIx xs.length 0 lo)
theorem RepL.cut {K : PySem.W.Frag} {G : Hp} {vs : List V} {ds : List D} (r : RepL K G vs ds) (lo hi : Option Int) : RepL K G (cutV vs lo hi) (cutL ds lo hi) := by
  unfold cutV cutL
  rw [r.length]
  exact (r.drop _).take _
def slD (d : D) (lo hi : Option Int) : Option D := match d with
  | .lst ds => some (.lst (cutL ds lo hi))
  | .tup ds => some (.tup (cutL ds lo hi))
  | .str z => if z.length ≤ 1000000 then some (.str (cutS z lo hi)) else none
  | _ => none
theorem fe_slice {e : Expr} {lo hi : Option Expr} {f : M D} {fl fh : M (Option Int)} {pos p2 : Pos} (he : FE c e f) (hl : FO c lo fl) (hh : FO c hi fh) :
    FE c (.Subscript e (.Slice lo hi none p2) pos) (bindM f fun d => bindM fl fun l => bindM fh fun h => liftO (slD d l h)) := by
  obtain ⟨ta, pa, sa⟩ := he.ex
  obtain ⟨tl, pl, sl⟩ := hl.ex
  obtain ⟨th, ph, sh⟩ := hh.ex
  refine ⟨_, fun X h => by have := pe_slice (X := X) (pos := pos) (p2 := p2) (sl_list.or (sl_tupA.or sl_str)) (pa X h) (pl X h) (ph X h); rwa [h.K] at this, fun F σ G H δ r s e Q p => ?_⟩
  refine sa.step s e p fun G1 H1 δ1 x d s1 g1 rx e1 p1 => ?_
  refine sl.step s1 e1 p1 fun G2 H2 δ2 y l s2 g2 ry e2 p2 => ?_
  refine sh.step s2 e2 p2 fun G3 H3 δ3 z h s3 g3 rz e3 p3 => ?_
  obtain ⟨d', hd', rfl⟩ := liftO_eq e3
  cases ry
  cases rz
  have rx3 := rx.mono (g2.trans g3)
  unfold slD at hd'
  split at hd'
  · cases hd'
    cases rx3 with
    | lst h1 h2 =>
      refine .inl ⟨_, _, rfl, .of (s3.sub _ _ h1), fun q hq => ?_⟩
      have gp := s3.sub.free hq
      exact p3 _ _ _ (s3.new hq) (same_upd gp) (.lst upd_same ((h2.cut _ _).mono (same_upd gp)))
  · cases hd'
    cases rx3 with
    | tup h1 h2 =>
      refine .inr (.inl ⟨_, _, rfl, seqT s3.sub h1, fun hw => ?_, fun hn q hq => ?_⟩)
      · rw [h2.length] at hw
        have e : cutL _ y z = _ := show (List.drop _ _).take _ = _ from by rw [hw.1, hw.2, List.drop_zero, Nat.sub_zero, List.take_length]
        rw [e] at p3
        exact p3 _ _ _ s3 (Same.refl _) (.tup h1 h2)
      · have gp := s3.sub.free hq
        exact p3 _ _ _ (s3.new hq) (same_upd gp) (.tup (.of upd_same) ((h2.cut _ _).mono (same_upd gp)))
  · split at hd'
    · rename_i hz
      cases hd'
      cases rx3
      exact .inr (.inr ⟨_, rfl, small6 hz, p3 _ _ _ s3 (Same.refl _) (.str _)⟩)
    · cases hd'
  · cases hd'

/-! ### built-ins -/
structure Cb (K : PySem.W.Frag) (r : List V → Hp → VK → Prop) (g : List D → Option D) : Prop where
  run : ∀ T F σ G H δ vs ds d, S (K, T) F σ G H δ → RepL K G vs ds → g ds = some d → ∀ Q : VK, (∀ G' H' w, S (K, T) F σ G' H' δ → Same G G' → Rep K G' w d → Q w H') → r vs H Q
theorem Cb.or {K : PySem.W.Frag} {r r' : List V → Hp → VK → Prop} {g g' : List D → Option D} (h : Cb K r g) (h' : Cb K r' g') : Cb K (fun xs H Q => r xs H Q ∨ r' xs H Q) (fun ds => (g ds).or (g' ds)) := by
  refine ⟨fun T F σ G H δ vs ds d s rv e Q q => ?_⟩
  cases h1 : g ds with
  | some d' =>
    rw [h1, Option.some_or] at e
    cases e
    exact .inl (h.run _ F σ G H δ vs ds _ s rv h1 Q q)
  | none =>
    rw [h1, Option.none_or] at e
    exact .inr (h'.run _ F σ G H δ vs ds _ s rv e Q q)
def callB (g : List D → Option D) (fa : M (List D)) : M D := bindM fa fun ds => liftO (g ds)
theorem Sp2.cb {K : PySem.W.Frag} {T : List (Addr × PySem.Str)} {cl : Nat → Addr} {E : XK} {r : List V → Hp → VK → Prop} {g : List D → Option D} {t : TA} {f : M (List D)} (hr : Cb K r g) (ha : Sp2 (K, T) cl E (RepL K) t f) : Sp2 (K, T) cl E (Rep K) (tCB r t) (callB g f) := by
  intro F σ G H δ r s e Q p
  refine ha.step s e p fun G1 H1 δ1 x ds s1 g1 rx e1 p1 => ?_
  obtain ⟨d, hd, rfl⟩ := liftO_eq e1
  exact hr.run _ F σ G1 H1 δ1 x ds d s1 rx hd Q fun G' H' w s' g' rw' => p1 G' H' w s' g' rw'
theorem fe_callB {id : String} {r : List V → Hp → VK → Prop} {g : List D → Option D} {x : Str} {p pos : Pos} {e : Expr} {es : List Expr} {f : M (List D)} (hm : c.mg x = none) (hc : ∀ X, In c X → CallR X (.builtin id) r) (hr : Cb c.K r g) (ha : FA c (e :: es) f)
    (hv : bootBuiltins x = some (.builtin id)) (hg : Gb c x := by rfl)
    (hn : x ≠ "__name__" := by decide) (hdb : (x == ("__debug__" : Str)) = false := by decide)
    (he : ∀ env : Env, starEach (e :: es) env = (false, eval e env) :: starEach es env := by intro _; rfl) (hpl : ∀ env : Env, (backTo pos (starEach es env)).any (·.1) = false := by intro _; rfl) :
    FE c (.Call (.Name x p) (e :: es) [] pos) (callB g f) := by
  obtain ⟨t, pa, sa⟩ := ha.ex
  exact ⟨_, fun X h => pe_callB (hc X h) (show X.env.scope.names.lookup x = _ by rw [h.sc]; exact hg) (by rw [h.mg]; exact hm) hv (pa X h) hn hdb (he _) (hpl _), Sp2.cb hr sa⟩
theorem fe_callTy {T : String} {r : List V → Hp → VK → Prop} {g : List D → Option D} {x : Str} {p pos : Pos} {e : Expr} {es : List Expr} {f : M (List D)} (hm : c.mg x = none) (hc : ∀ X, In c X → CallR X (.type T) r) (hr : Cb c.K r g) (ha : FA c (e :: es) f)
    (hv : bootBuiltins x = some (.type T)) (hg : Gb c x := by rfl)
    (hn : x ≠ "__name__" := by decide) (hdb : (x == ("__debug__" : Str)) = false := by decide)
    (he : ∀ env : Env, starEach (e :: es) env = (false, eval e env) :: starEach es env := by intro _; rfl) (hpl : ∀ env : Env, (backTo pos (starEach es env)).any (·.1) = false := by intro _; rfl) :
    FE c (.Call (.Name x p) (e :: es) [] pos) (callB g f) := by
  obtain ⟨t, pa, sa⟩ := ha.ex
  exact ⟨_, fun X h => pe_callTy (hc X h) (show X.env.scope.names.lookup x = _ by rw [h.sc]; exact hg) (by rw [h.mg]; exact hm) hv (pa X h) hn hdb (he _) (hpl _), Sp2.cb hr sa⟩
def absI (i : Int) : Int := if i < 0 then -i else i
def absD : List D → Option D
  | [.int i] => some (.int (absI i))
  | _ => none
theorem cb_abs {K : PySem.W.Frag} : Cb K (fun xs H Q => ∃ i, xs = [V.int i] ∧ Q (.int (if i < 0 then -i else i)) H) absD := by
  refine ⟨fun T F σ G H δ vs ds d s rv e Q q => ?_⟩
  unfold absD at e
  split at e
  · rename_i i
    cases e
    cases rv with
    | cons h t =>
      cases t
      cases h
      exact ⟨i, rfl, q G H _ s (Same.refl _) (.int _)⟩
  · cases e
theorem fe_abs {p pos : Pos} {e : Expr} {f : M (List D)} (hm : c.mg "abs" = none) (ha : FA c [e] f) (hg : Gb c "abs" := by rfl) (he : ∀ env : Env, starEach [e] env = (false, eval e env) :: starEach [] env := by intro _; rfl) :
    FE c (.Call (.Name "abs" p) [e] [] pos) (callB absD f) :=
  fe_callB hm (fun _ _ => call_abs) cb_abs ha (by first | exact PySem.boot_abs | decide +kernel) hg (he := he)
/-- max and min of a list of ints; of two ints -/
def intsOf : List D → Option (List Int)
  | [] => some []
  | .int i :: r => (intsOf r).map (i :: ·)
  | _ => none
theorem intsOf_some : ∀ {ds : List D} {ns : List Int}, intsOf ds = some ns → ds = ns.map D.int
  | [], ns, h => by cases h; rfl
  | .int i :: r, ns, h => by
    rw [intsOf] at h
    cases q : intsOf r with
    | none => rw [q] at h; cases h
    | some ms => rw [q] at h; cases h; rw [intsOf_some q]; rfl
  | .non :: _, _, h => by cases h
  | .bl _ :: _, _, h => by cases h
  | .str _ :: _, _, h => by cases h
  | .lst _ :: _, _, h => by cases h
  | .tup _ :: _, _, h => by cases h
  | .ins _ _ :: _, _, h => by cases h
  | .fn _ :: _, _, h => by cases h
theorem intsOf_map : ∀ ns : List Int, intsOf (ns.map D.int) = some ns
  | [] => rfl
  | n :: r => by rw [List.map_cons, intsOf, intsOf_map r]; rfl
def maxL : List Int → Int
  | [] => 0
  | [x] => x
  | x :: y :: r => let m := maxL (y :: r); if x < m then m else x
def minL : List Int → Int
  | [] => 0
  | [x] => x
  | x :: y :: r => let m := minL (y :: r); if m < x then m else x
theorem maxL_mem : ∀ {l : List Int}, 0 < l.length → maxL l ∈ l
  | [], h => by simp at h
  | [x], _ => by simp [maxL]
  | x :: y :: r, _ => by
    have ih := maxL_mem (l := y :: r) (by simp)
    simp only [maxL]
    split
    · exact List.mem_cons_of_mem _ ih
    · exact List.mem_cons_self
theorem maxL_le : ∀ {l : List Int} {z : Int}, z ∈ l → z ≤ maxL l
  | [], _, h => by simp at h
  | [x], z, h => by simp [maxL] at h ⊢; omega
  | x :: y :: r, z, h => by
    simp only [maxL]
    rcases List.mem_cons.mp h with rfl | h
    · split <;> omega
    · have ih := maxL_le (l := y :: r) h
      split <;> omega
theorem minL_mem : ∀ {l : List Int}, 0 < l.length → minL l ∈ l
  | [], h => by simp at h
  | [x], _ => by simp [minL]
  | x :: y :: r, _ => by
    have ih := minL_mem (l := y :: r) (by simp)
    simp only [minL]
    split
    · exact List.mem_cons_of_mem _ ih
    · exact List.mem_cons_self
theorem minL_le : ∀ {l : List Int} {z : Int}, z ∈ l → minL l ≤ z
  | [], _, h => by simp at h
  | [x], z, h => by simp [minL] at h ⊢; omega
  | x :: y :: r, z, h => by
    simp only [minL]
    rcases List.mem_cons.mp h with rfl | h
    · split <;> omega
    · have ih := minL_le (l := y :: r) h
      split <;> omega
def maxD : List D → Option D
  | [.lst ds] => match intsOf ds with
    | some (n :: r) => some (.int (maxL (n :: r)))
    | _ => none
  | _ => none
def minD : List D → Option D
  | [.lst ds] => match intsOf ds with
    | some (n :: r) => some (.int (minL (n :: r)))
    | _ => none
  | _ => none
theorem cb_max {K : PySem.W.Frag} : Cb K (rMax K) maxD := by
  refine ⟨fun T F σ G H δ vs ds d s rv e Q q => ?_⟩
  unfold maxD at e
  split at e
  · split at e
    · rename_i n r hi
      cases e
      cases rv with
      | cons h t =>
        cases t
        cases h with
        | lst h1 h2 =>
          rw [intsOf_some hi] at h2
          have ev := h2.ints'
          subst ev
          refine ⟨_, n :: r, rfl, .of (s.sub _ _ h1), by simp, fun m hm hle => ?_⟩
          have : m = maxL (n :: r) := Int.le_antisymm (maxL_le hm) (hle _ (maxL_mem (by simp)))
          rw [this]
          exact q G H _ s (Same.refl _) (.int _)
    · cases e
  · cases e
theorem cb_min {K : PySem.W.Frag} : Cb K (rMin K) minD := by
  refine ⟨fun T F σ G H δ vs ds d s rv e Q q => ?_⟩
  unfold minD at e
  split at e
  · split at e
    · rename_i n r hi
      cases e
      cases rv with
      | cons h t =>
        cases t
        cases h with
        | lst h1 h2 =>
          rw [intsOf_some hi] at h2
          have ev := h2.ints'
          subst ev
          refine ⟨_, n :: r, rfl, .of (s.sub _ _ h1), by simp, fun m hm hle => ?_⟩
          have : m = minL (n :: r) := Int.le_antisymm (hle _ (minL_mem (by simp))) (minL_le hm)
          rw [this]
          exact q G H _ s (Same.refl _) (.int _)
    · cases e
  · cases e
theorem fe_max {p pos : Pos} {e : Expr} {f : M (List D)} (hm : c.mg "max" = none) (ha : FA c [e] f) (hg : Gb c "max" := by rfl) (he : ∀ env : Env, starEach [e] env = (false, eval e env) :: starEach [] env := by intro _; rfl) :
    FE c (.Call (.Name "max" p) [e] [] pos) (callB maxD f) :=
  fe_callB hm (fun X h => by have := cr_max (X := X) h.calm; rwa [h.K] at this) cb_max ha (by first | exact PyProof.Rows.boot_max | decide +kernel) hg (he := he)
theorem fe_min {p pos : Pos} {e : Expr} {f : M (List D)} (hm : c.mg "min" = none) (ha : FA c [e] f) (hg : Gb c "min" := by rfl) (he : ∀ env : Env, starEach [e] env = (false, eval e env) :: starEach [] env := by intro _; rfl) :
    FE c (.Call (.Name "min" p) [e] [] pos) (callB minD f) :=
  fe_callB hm (fun X h => by have := cr_min (X := X) h.calm; rwa [h.K] at this) cb_min ha (by first | exact PyProof.Rows.boot_min | decide +kernel) hg (he := he)
def sumD : List D → Option D
  | [.lst ds] => (intsOf ds).map fun ns => .int ns.sum
  | _ => none
theorem cb_sum {K : PySem.W.Frag} : Cb K (rSum K) sumD := by
  refine ⟨fun T F σ G H δ vs ds d s rv e Q q => ?_⟩
  unfold sumD at e
  split at e
  · rename_i ds
    cases hi : intsOf ds with
    | none => rw [hi] at e; cases e
    | some ns =>
      rw [hi] at e
      cases e
      cases rv with
      | cons h t =>
        cases t
        cases h with
        | lst h1 h2 =>
          rw [intsOf_some hi] at h2
          have ev := h2.ints'
          subst ev
          exact ⟨_, ns, rfl, .of (s.sub _ _ h1), q G H _ s (Same.refl _) (.int _)⟩
  · cases e
theorem fe_sum {p pos : Pos} {e : Expr} {f : M (List D)} (hm : c.mg "sum" = none) (ha : FA c [e] f) (hg : Gb c "sum" := by rfl) (he : ∀ env : Env, starEach [e] env = (false, eval e env) :: starEach [] env := by intro _; rfl) :
    FE c (.Call (.Name "sum" p) [e] [] pos) (callB sumD f) :=
  fe_callB hm (fun X h => by have := cr_sum (X := X) h.calm; rwa [h.K] at this) cb_sum ha (by decide +kernel) hg (he := he)
def lenD : List D → Option D
  | [.lst ds] => some (.int ds.length)
  | [.tup ds] => some (.int ds.length)
  | [.str z] => if z.length ≤ sizeLine then some (.int z.length) else none
  | _ => none
theorem cb_len {K : PySem.W.Frag} : Cb K (fun xs H Q => (∃ p ys, xs = [V.ref p] ∧ (SqL K H p ys ∨ SqT K H p ys) ∧ Q (.int ys.length) H) ∨ (∃ z, xs = [V.str z] ∧ z.length ≤ sizeLine ∧ Q (.int z.length) H)) lenD := by
  refine ⟨fun T F σ G H δ vs ds d s rv e Q q => ?_⟩
  unfold lenD at e
  split at e
  · cases e
    cases rv with
    | cons h t =>
      cases t
      cases h with
      | lst h1 h2 => exact .inl ⟨_, _, rfl, .inl (.of (s.sub _ _ h1)), by rw [h2.length]; exact q G H _ s (Same.refl _) (.int _)⟩
  · cases e
    cases rv with
    | cons h t =>
      cases t
      cases h with
      | tup h1 h2 => exact .inl ⟨_, _, rfl, .inr (seqT s.sub h1), by rw [h2.length]; exact q G H _ s (Same.refl _) (.int _)⟩
  · split at e
    · rename_i z hz
      cases e
      cases rv with
      | cons h t =>
        cases t
        cases h
        exact .inr ⟨z, rfl, hz, q G H _ s (Same.refl _) (.int _)⟩
    · cases e
  · cases e
theorem fe_len {p pos : Pos} {e : Expr} {f : M (List D)} (hm : c.mg "len" = none) (ha : FA c [e] f) (hg : Gb c "len" := by rfl) (he : ∀ env : Env, starEach [e] env = (false, eval e env) :: starEach [] env := by intro _; rfl) :
    FE c (.Call (.Name "len" p) [e] [] pos) (callB lenD f) :=
  fe_callB hm (fun X h => by have := (call_len_seq (X := X)).or call_len_str; rwa [h.K] at this) cb_len ha PySem.boot_len hg (he := he)
def listD : List D → Option D
  | [.lst ds] => some (.lst ds)
  | [.tup ds] => some (.lst ds)
  | _ => none
theorem cb_list {K : PySem.W.Frag} : Cb K (fun xs H Q => ∃ p ys, xs = [V.ref p] ∧ (SqL K H p ys ∨ SqT K H p ys) ∧ ∀ l, H l = none → Q (.ref l) (upd H l (.lst ys))) listD := by
  refine ⟨fun T F σ G H δ vs ds d s rv e Q q => ?_⟩
  unfold listD at e
  split at e
  · cases e
    cases rv with
    | cons h t =>
      cases t
      cases h with
      | lst h1 h2 => exact ⟨_, _, rfl, .inl (.of (s.sub _ _ h1)), fun l hl => q _ _ _ (s.new hl) (same_upd (s.sub.free hl)) (.lst upd_same (h2.mono (same_upd (s.sub.free hl))))⟩
  · cases e
    cases rv with
    | cons h t =>
      cases t
      cases h with
      | tup h1 h2 => exact ⟨_, _, rfl, .inr (seqT s.sub h1), fun l hl => q _ _ _ (s.new hl) (same_upd (s.sub.free hl)) (.lst upd_same (h2.mono (same_upd (s.sub.free hl))))⟩
  · cases e
theorem fe_list {p pos : Pos} {e : Expr} {f : M (List D)} (hm : c.mg "list" = none) (ha : FA c [e] f) (hg : Gb c "list" := by rfl) (he : ∀ env : Env, starEach [e] env = (false, eval e env) :: starEach [] env := by intro _; rfl) :
    FE c (.Call (.Name "list" p) [e] [] pos) (callB listD f) :=
  fe_callTy hm (fun X h => by have := call_list_of (X := X); rwa [h.K] at this) cb_list ha (by decide +kernel) hg (he := he)
def tupleD : List D → Option D
  | [.lst ds] => some (.tup ds)
  | [.tup ds] => some (.tup ds)
  | _ => none
theorem cb_tuple {K : PySem.W.Frag} : Cb K (fun xs H Q => ∃ p ys, xs = [V.ref p] ∧ ((SqL K H p ys ∧ ∀ l, H l = none → Q (.ref l) (upd H l (.tup ys))) ∨ (SqT K H p ys ∧ Q (.ref p) H))) tupleD := by
  refine ⟨fun T F σ G H δ vs ds d s rv e Q q => ?_⟩
  unfold tupleD at e
  split at e
  · cases e
    cases rv with
    | cons h t =>
      cases t
      cases h with
      | lst h1 h2 => exact ⟨_, _, rfl, .inl ⟨.of (s.sub _ _ h1), fun l hl => q _ _ _ (s.new hl) (same_upd (s.sub.free hl)) (.tup (.of upd_same) (h2.mono (same_upd (s.sub.free hl))))⟩⟩
  · cases e
    cases rv with
    | cons h t =>
      cases t
      cases h with
      | tup h1 h2 => exact ⟨_, _, rfl, .inr ⟨seqT s.sub h1, q G H _ s (Same.refl _) (.tup h1 h2)⟩⟩
  · cases e
theorem fe_tuple {p pos : Pos} {e : Expr} {f : M (List D)} (hm : c.mg "tuple" = none) (ha : FA c [e] f) (hg : Gb c "tuple" := by rfl) (he : ∀ env : Env, starEach [e] env = (false, eval e env) :: starEach [] env := by intro _; rfl) :
    FE c (.Call (.Name "tuple" p) [e] [] pos) (callB tupleD f) :=
  fe_callTy hm (fun X h => by have := call_tuple_of (X := X); rwa [h.K] at this) cb_tuple ha (by decide +kernel) hg (he := he)
def intD : List D → Option D
  | [.int i] => some (.int i)
  | [.bl b] => some (.int (if b then 1 else 0))
  | _ => none
theorem cb_int {K : PySem.W.Frag} : Cb K (fun xs H Q => (∃ i, xs = [V.int i] ∧ Q (.int i) H) ∨ ∃ k, xs = [V.bl k] ∧ Q (.int (if k then 1 else 0)) H) intD := by
  refine ⟨fun T F σ G H δ vs ds d s rv e Q q => ?_⟩
  unfold intD at e
  split at e
  · cases e
    cases rv with
    | cons h t =>
      cases t
      cases h
      exact .inl ⟨_, rfl, q G H _ s (Same.refl _) (.int _)⟩
  · cases e
    cases rv with
    | cons h t =>
      cases t
      cases h
      exact .inr ⟨_, rfl, q G H _ s (Same.refl _) (.int _)⟩
  · cases e
theorem fe_int1 {p pos : Pos} {e : Expr} {f : M (List D)} (hm : c.mg "int" = none) (ha : FA c [e] f) (hg : Gb c "int" := by rfl) (he : ∀ env : Env, starEach [e] env = (false, eval e env) :: starEach [] env := by intro _; rfl) :
    FE c (.Call (.Name "int" p) [e] [] pos) (callB intD f) :=
  fe_callTy hm (fun X h => call_int1) cb_int ha PyProof.Rows.boot_int hg (he := he)

/-! ### defs of one's own -/
/-- what a def gives for data: none: not told; ret: hands back; ex: raises the c-th class -/
inductive Res where
  | ret (d : D) | ex (c : Nat)
abbrev DF := List D → Option Res
/-- the promise of a def that changes nothing that stood -/
def spD (K : PySem.W.Frag) (cl : Nat → Addr) (f : DF) : Sp := fun vs H Q E => ∃ (F G : Hp) (ds : List D) (r : Res), Same G H ∧ Same F H ∧ (∀ b o, F b = some o → G b = none) ∧ (∀ b ps, G b ≠ some (.tbl ps)) ∧ RepL K G vs ds ∧ f ds = some r ∧
  match r with
  | .ret d => ∀ G' H' v, Same G G' → Same G' H' → Same F H' → (∀ b o, F b = some o → G' b = none) → (∀ b ps, G' b ≠ some (.tbl ps)) → Rep K G' v d → Q v H'
  | .ex k => ∀ G' H', Same G G' → Same G' H' → Same F H' → E (.ref (cl k)) none H'
structure FnD (P : Program) (w : World) (K : PySem.W.Frag) (mg : Str → Option Value) (base : Heap) (cl : Nat → Addr) (k : Nat) (x : Str) (f : DF) : Prop where
  ex : ∃ (a : Addr) (fd : FuncData) (ps : List Str), mg x = some (.ref a) ∧ PySem.W.keepIn K (.ref a) = true ∧ Binds K fd ps [] ∧ FnOk P w K mg base (L2.CX P w) k a fd ps (spD K cl f)
theorem FnD.mono {P : Program} {w : World} {K : PySem.W.Frag} {mg : Str → Option Value} {base : Heap} {cl : Nat → Addr} {j k : Nat} {x : Str} {f : DF} (h : FnD P w K mg base cl j x f) (hj : j ≤ k) : FnD P w K mg base cl k x f := by
  obtain ⟨a, fd, ps, h1, h2, h3, h4⟩ := h.ex
  exact ⟨a, fd, ps, h1, h2, h3, h4.mono hj⟩
/-- callers' frozen heap of a state: all of H that is not G and not one of its own lists -/
def resM (r : Option Res) : M D := fun δ => match r with
  | none => none
  | some (.ret d) => some (.ok d δ)
  | some (.ex k) => some (.ex k)
def callM (f : DF) (fa : M (List D)) : M D := bindM fa fun ds => resM (f ds)
/-- all that H holds beside G -/
def besides (G H : Hp) : Hp := fun b => match G b with
  | some _ => none
  | none => H b
theorem S.after {K : PySem.W.Frag} {T : List (Addr × PySem.Str)} {F G H G' H' : Hp} {σ : L2.St} {δ : De} (s : S (K, T) F σ G H δ) (g : Same G G') (h : Same G' H') (f : Same (besides G H) H') (d : ∀ b o, besides G H b = some o → G' b = none) (n : ∀ b ps, G' b ≠ some (.tbl ps)) : S (K, T) F σ G' H' δ := by
  have bs : ∀ b o, H b = some o → G b = none → besides G H b = some o := fun b o e n => by unfold besides; rw [n]; exact e
  refine ⟨h, fun b o e => f _ _ (bs _ _ (s.frm _ _ e) (s.dis _ _ e)), fun b o e => d _ _ (bs _ _ (s.frm _ _ e) (s.dis _ _ e)), s.len, fun i d' e => ?_, fun i xs e => ?_, s.inj, ?_, fun x hx => ?_, n, s.ntf⟩
  · obtain ⟨v, h1, h2⟩ := s.val i d' e
    exact ⟨v, h1, h2.mono g⟩
  · obtain ⟨p, vs, h1, h2, h3, h4, h5⟩ := s.own i xs e
    exact ⟨p, vs, h1, f _ _ (bs _ _ h2 h4), h3.mono g, d _ _ (bs _ _ h2 h4), h5⟩
  · intro x hx
    have all : ∀ b o, H b = some o → H' b = some o := fun b o e => by
      cases hg : G b with
      | none => exact f _ _ (bs _ _ e hg)
      | some o' =>
        have := s.sub _ _ hg
        rw [e] at this
        cases this
        exact h _ _ (g _ _ hg)
    exact (s.tab x hx).ext all
  · obtain ⟨ps, hp⟩ := s.tab_at hx
    exact ⟨(s.tnf x hx).1, d _ _ (bs _ _ hp (s.tnf x hx).2)⟩
theorem fe_call {k : Nat} {x : Str} {f : DF} {p pos : Pos} {e : Expr} {es : List Expr} {fa : M (List D)} (F : FnD c.P c.w c.K c.mg c.base c.cl k x f) (ha : FA c (e :: es) fa) (hk : Nat.ble k c.k = true := by rfl)
    (hg : Gb c x := by rfl)
    (hdb : (x == ("__debug__" : Str)) = false := by decide) (he : ∀ env : Env, starEach (e :: es) env = (false, eval e env) :: starEach es env := by intro _; rfl) (hpl : ∀ env : Env, (backTo pos (starEach es env)).any (·.1) = false := by intro _; rfl) :
    FE c (.Call (.Name x p) (e :: es) [] pos) (callM f fa) := by
  obtain ⟨t, pa, sa⟩ := ha.ex
  obtain ⟨a, fd, ps, h1, h2, h3, h4⟩ := F.ex
  refine ⟨tCallS (spD c.K c.cl f) (WE fun cls d _ H => c.E cls d H) t, fun X h => ?_, ?_⟩
  · have h4' : FnOk X.prog X.w X.K X.mg X.base (L2.CX X.prog X.w) k a fd ps (spD c.K c.cl f) := by rw [h.P, h.w, h.K, h.mg, h.base]; exact h4
    exact pe_callS h4' (h.room.mono (Nat.le_of_ble_eq_true hk)) (show X.env.scope.names.lookup x = _ by rw [h.sc]; exact hg) (by rw [h.mg]; exact h1) (by rw [h.K]; exact h2) (by rw [h.K]; exact h3) (fun σ => passAt h.tk σ) (pa X h) hdb (he _) (hpl _)
  · intro F σ G H δ r s e Q p
    refine sa.step s e p fun G1 H1 δ1 vs ds s1 g1 rx e1 p1 => ?_
    unfold resM at e1
    cases h : f ds with
    | none => rw [h] at e1; cases e1
    | some rr =>
      rw [h] at e1
      have bs : ∀ b o, besides G1 H1 b = some o → G1 b = none ∧ H1 b = some o := fun b o e => by
        unfold besides at e
        split at e
        · cases e
        · rename_i q; exact ⟨q, e⟩
      refine ⟨besides G1 H1, G1, ds, rr, s1.sub, fun b o e => (bs b o e).2, fun b o e => (bs b o e).1, s1.ntg, rx, h, ?_⟩
      cases rr with
      | ret d =>
        cases e1
        exact fun G' H' v g' h' f' d' n' rv => p1 G' H' v (s1.after g' h' f' d' n') g' rv
      | ex k =>
        cases e1
        exact fun G' H' g' h' f' => p1 G' H' g' h' fun b o e => f' _ _ (by unfold besides; rw [s1.dis _ _ e]; exact s1.frm _ _ e)
end
end FL

set_option Elab.async false
set_option linter.all false
set_option maxRecDepth 100000
set_option maxHeartbeats 2000000
/-! FL4: what is walked, targets, statements, defs. -/
namespace FL
open PySem PySem.Spec PyProof.Rows L2
/-! ### what is walked -/
structure Walks (K : PySem.W.Frag) (G' : Hp) (J : It) (ds : List D) : Prop where
  go : ∀ T F σ G H δ i, Same G' G → S (K, T) F σ G H δ → i < ds.length → J.go i H
  yld : ∀ T F σ G H δ i x H3 d, Same G' G → S (K, T) F σ G H δ → J.yld i H x H3 → ds[i]? = some d → ∃ G3, S (K, T) F σ G3 H3 δ ∧ Same G G3 ∧ Rep K G3 x d
  stop : ∀ T F σ G H δ i, Same G' G → S (K, T) F σ G H δ → ds.length ≤ i → J.stop i H
structure FI (c : SC) (tg iter : Expr) (f : M (List D)) : Prop where
  ex : ∃ wi, (∀ X, In c X → PI X tg iter wi) ∧ Sp2 c.κ c.cl c.E (Walks c.K) wi f
theorem pi_or {X : Cx} {tg it : Expr} {w w' : TI} (h : PI X tg it w) (h' : PI X tg it w') : PI X tg it (fun σ H R => w σ H R ∨ w' σ H R) :=
  ⟨fun pins s σ H R I q => q.elim (h.run pins s σ H R I) (h'.run pins s σ H R I)⟩
def seqOf : D → Option (List D)
  | .lst ds => some ds
  | .tup ds => some ds
  | _ => none
section
variable {c : SC}
theorem walks_l {K : PySem.W.Frag} {G : Hp} {a : Addr} {xs : List V} {ds : List D} (h : G a = some (.lst xs)) (r : RepL K G xs ds) : Walks K G (Itl K a) ds where
  go := fun T F σ G1 H δ i g s hi => by
    obtain ⟨d, hd⟩ : ∃ d, ds[i]? = some d := ⟨_, List.getElem?_eq_getElem hi⟩
    obtain ⟨v, h1, h2⟩ := r.get hd
    exact ⟨xs, v, .of (s.sub _ _ (g _ _ h)), h1⟩
  yld := fun T F σ G1 H δ i x H3 d g s hy hd => by
    obtain ⟨rfl, q⟩ := hy
    obtain ⟨v, h1, h2⟩ := r.get hd
    have := q xs (.of (s.sub _ _ (g _ _ h)))
    rw [h1] at this
    cases this
    exact ⟨G1, s, Same.refl _, h2.mono g⟩
  stop := fun T F σ G1 H δ i g s hi => ⟨xs, .of (s.sub _ _ (g _ _ h)), by rw [r.length]; exact hi⟩
theorem walks_t {K : PySem.W.Frag} {G : Hp} {a : Addr} {xs : List V} {ds : List D} (h : SqT K G a xs) (r : RepL K G xs ds) : Walks K G (Itt K a) ds where
  go := fun T F σ G1 H δ i g s hi => by
    obtain ⟨d, hd⟩ : ∃ d, ds[i]? = some d := ⟨_, List.getElem?_eq_getElem hi⟩
    obtain ⟨v, h1, h2⟩ := r.get hd
    exact ⟨xs, v, seqT (g.trans s.sub) h, h1⟩
  yld := fun T F σ G1 H δ i x H3 d g s hy hd => by
    obtain ⟨rfl, q⟩ := hy
    obtain ⟨v, h1, h2⟩ := r.get hd
    have := q xs (seqT (g.trans s.sub) h)
    rw [h1] at this
    cases this
    exact ⟨G1, s, Same.refl _, h2.mono g⟩
  stop := fun T F σ G1 H δ i g s hi => ⟨xs, seqT (g.trans s.sub) h, by rw [r.length]; exact hi⟩
def seqM (f : M D) : M (List D) := bindM f fun d => liftO (seqOf d)
theorem fi_seq {tg e : Expr} {f : M D} (h : FE c e f) : FI c tg e (seqM f) := by
  obtain ⟨t, pa, sa⟩ := h.ex
  refine ⟨fun σ H R => iList c.K t σ H R ∨ iTup c.K t σ H R, fun X h => by have := pi_or (tg := tg) (pi_list (pa X h)) (pi_tup (pa X h)); rwa [h.K] at this, fun F σ G H δ r s e Q p => ?_⟩
  -- which of the two: by the value
  unfold seqM bindM at e
  cases hf : f δ with
  | none => rw [hf] at e; cases e
  | some ra =>
    rw [hf] at e
    cases ra with
    | ex k => cases e; exact .inl (sa F σ G H δ _ s hf _ p)
    | ok d δ' =>
      obtain ⟨ds, hd, rfl⟩ := liftO_eq e
      cases d <;> simp only [seqOf, Option.some.injEq, reduceCtorEq] at hd
      · subst hd
        refine .inl (sa F σ G H δ _ s hf _ fun G1 H1 v s1 g1 rv => ?_)
        cases rv with
        | lst h1 h2 => exact ⟨_, rfl, ⟨_, .of (s1.sub _ _ h1)⟩, p G1 H1 _ s1 g1 (walks_l h1 h2)⟩
      · subst hd
        refine .inr (sa F σ G H δ _ s hf _ fun G1 H1 v s1 g1 rv => ?_)
        cases rv with
        | tup h1 h2 => exact ⟨_, rfl, ⟨_, seqT s1.sub h1⟩, p G1 H1 _ s1 g1 (walks_t h1 h2)⟩
/-- lo, lo + 1, .. -/
def rangeL (lo : Int) (n : Nat) : List D := (List.range n).map fun (k : Nat) => D.int (lo + k)
theorem rangeL_len (lo : Int) (n : Nat) : (rangeL lo n).length = n := by simp [rangeL]
theorem walks_r {K : PySem.W.Frag} {G : Hp} {lo : Int} {n : Nat} : Walks K G (Itr lo n) (rangeL lo n) where
  go := fun T F σ G1 H δ i g s hi => by rw [rangeL_len] at hi; exact hi
  yld := fun T F σ G1 H δ i x H3 d g s hy hd => by
    obtain ⟨rfl, rfl⟩ := hy
    unfold rangeL at hd
    rw [List.getElem?_map] at hd
    cases h : (List.range n)[i]? with
    | none => rw [h] at hd; cases hd
    | some k =>
      rw [h] at hd
      cases hd
      have : k = i := by
        have := List.getElem?_eq_some_iff.mp h
        obtain ⟨h1, h2⟩ := this
        rw [List.getElem_range] at h2
        exact h2.symm
      subst this
      exact ⟨G1, s, Same.refl _, .int _⟩
  stop := fun T F σ G1 H δ i g s hi => by rw [rangeL_len] at hi; exact hi
def inR (j : Int) : Prop := -(2 ^ 62) ≤ j ∧ j < 2 ^ 62
instance (j : Int) : Decidable (inR j) := by unfold inR; infer_instance
def rng1 : List D → Option (List D)
  | [.int j] => if inR j then some (rangeL 0 j.toNat) else none
  | _ => none
def rng2 : List D → Option (List D)
  | [.int i, .int j] => if inR i ∧ inR j then some (rangeL i (j - i).toNat) else none
  | _ => none
def itM (g : List D → Option (List D)) (f : M (List D)) : M (List D) := bindM f fun ds => liftO (g ds)
theorem fi_range1 {tg a : Expr} {f : M (List D)} {p pos : Pos} (hm : c.mg "range" = none) (ha : FA c [a] f) (hg : Gb c "range" := by rfl) (hs : ∀ env : Env, starEach [a] env = [(false, eval a env)] := by intro _; rfl) : FI c tg (.Call (.Name "range" p) [a] [] pos) (itM rng1 f) := by
  obtain ⟨t, pa, sa⟩ := ha.ex
  refine ⟨_, fun X h => pi_range1 (show X.env.scope.names.lookup _ = _ by rw [h.sc]; exact hg) (by rw [h.mg]; exact hm) (pa X h) (hs _), fun F σ G H δ r s e Q p => ?_⟩
  refine sa.step s e p fun G1 H1 δ1 x ds s1 g1 rx e1 p1 => ?_
  obtain ⟨d, hd, rfl⟩ := liftO_eq e1
  unfold rng1 at hd
  split at hd
  · split at hd
    · rename_i j hj
      cases hd
      cases rx with
      | cons h t =>
        cases t
        cases h
        exact ⟨j, rfl, hj.1, hj.2, p1 G1 H1 _ s1 (Same.refl _) walks_r⟩
    · cases hd
  · cases hd
theorem fi_range2 {tg a b : Expr} {f : M (List D)} {p pos : Pos} (hm : c.mg "range" = none) (ha : FA c [a, b] f) (hg : Gb c "range" := by rfl) (hs : ∀ env : Env, starEach [a, b] env = [(false, eval a env), (false, eval b env)] := by intro _; rfl) (hs2 : ∀ env : Env, starEach [b] env = [(false, eval b env)] := by intro _; rfl) :
    FI c tg (.Call (.Name "range" p) [a, b] [] pos) (itM rng2 f) := by
  obtain ⟨t, pa, sa⟩ := ha.ex
  refine ⟨_, fun X h => pi_range2 (show X.env.scope.names.lookup _ = _ by rw [h.sc]; exact hg) (by rw [h.mg]; exact hm) (pa X h) (hs _) (hs2 _), fun F σ G H δ r s e Q p => ?_⟩
  refine sa.step s e p fun G1 H1 δ1 x ds s1 g1 rx e1 p1 => ?_
  obtain ⟨d, hd, rfl⟩ := liftO_eq e1
  unfold rng2 at hd
  split at hd
  · split at hd
    · rename_i i j hj
      cases hd
      cases rx with
      | cons h t =>
        cases t with
        | cons h' t =>
          cases t
          cases h
          cases h'
          exact ⟨i, j, rfl, ⟨hj.1.1, hj.1.2, hj.2.1, hj.2.2⟩, p1 G1 H1 _ s1 (Same.refl _) walks_r⟩
    · cases hd
  · cases hd
/-- zip of two lists, of two tuples -/
def zipL : List D → List D → List D
  | x :: xs, y :: ys => .tup [x, y] :: zipL xs ys
  | _, _ => []
theorem zipL_get : ∀ {xs ys : List D} {i : Nat} {d : D}, (zipL xs ys)[i]? = some d → ∃ x y, xs[i]? = some x ∧ ys[i]? = some y ∧ d = .tup [x, y]
  | [], ys, i, d, h => by simp [zipL] at h
  | x :: xs, [], i, d, h => by simp [zipL] at h
  | x :: xs, y :: ys, 0, d, h => by simp [zipL] at h; exact ⟨x, y, rfl, rfl, h.symm⟩
  | x :: xs, y :: ys, i + 1, d, h => by
    have h' : (zipL xs ys)[i]? = some d := h
    obtain ⟨a, b, h1, h2, h3⟩ := zipL_get h'
    exact ⟨a, b, h1, h2, h3⟩
theorem zipL_len : ∀ {xs ys : List D}, (zipL xs ys).length = min xs.length ys.length
  | [], ys => by simp [zipL]
  | x :: xs, [] => by simp [zipL]
  | x :: xs, y :: ys => by simp only [zipL, List.length_cons, zipL_len (xs := xs) (ys := ys)]; omega
theorem two_line : 2 ≤ sizeLine := by decide
theorem walks_zl {K : PySem.W.Frag} {G : Hp} {a b : Addr} {xs ys : List V} {ds es : List D} (h : G a = some (.lst xs)) (r : RepL K G xs ds) (h' : G b = some (.lst ys)) (r' : RepL K G ys es) : Walks K G (Itz K a b) (zipL ds es) where
  go := fun T F σ G1 H δ i g s hi => by
    rw [zipL_len] at hi
    obtain ⟨d, hd⟩ : ∃ d, ds[i]? = some d := ⟨_, List.getElem?_eq_getElem (by omega)⟩
    obtain ⟨e, he⟩ : ∃ d, es[i]? = some d := ⟨_, List.getElem?_eq_getElem (by omega)⟩
    obtain ⟨v, h1, h2⟩ := r.get hd
    obtain ⟨w, h3, h4⟩ := r'.get he
    exact ⟨xs, ys, v, w, .of (s.sub _ _ (g _ _ h)), .of (s.sub _ _ (g _ _ h')), h1, h3⟩
  yld := fun T F σ G1 H δ i x H3 d g s hy hd => by
    obtain ⟨x1, y1, e1, e2, rfl⟩ := zipL_get hd
    obtain ⟨T, v1, v2, rfl, hT, rfl, q1, q2⟩ := hy
    obtain ⟨v, h1, h2⟩ := r.get e1
    obtain ⟨w, h3, h4⟩ := r'.get e2
    have z1 := q1 xs (.of (s.sub _ _ (g _ _ h)))
    have z2 := q2 ys (.of (s.sub _ _ (g _ _ h')))
    rw [h1] at z1
    rw [h3] at z2
    cases z1
    cases z2
    have gp := s.sub.free hT
    exact ⟨_, s.new hT, same_upd gp, .tup (.of upd_same) (.cons (h2.mono (g.trans (same_upd gp))) (.cons (h4.mono (g.trans (same_upd gp))) .nil))⟩
  stop := fun T F σ G1 H δ i g s hi => by
    rw [zipL_len] at hi
    refine ⟨xs, ys, .of (s.sub _ _ (g _ _ h)), .of (s.sub _ _ (g _ _ h')), ?_⟩
    rw [r.length, r'.length]
    omega
theorem walks_zt {K : PySem.W.Frag} {G : Hp} {a b : Addr} {xs ys : List V} {ds es : List D} (h : SqT K G a xs) (r : RepL K G xs ds) (h' : SqT K G b ys) (r' : RepL K G ys es) : Walks K G (RZ.ItzT K a b) (zipL ds es) where
  go := fun T F σ G1 H δ i g s hi => by
    rw [zipL_len] at hi
    obtain ⟨d, hd⟩ : ∃ d, ds[i]? = some d := ⟨_, List.getElem?_eq_getElem (by omega)⟩
    obtain ⟨e, he⟩ : ∃ d, es[i]? = some d := ⟨_, List.getElem?_eq_getElem (by omega)⟩
    obtain ⟨v, h1, h2⟩ := r.get hd
    obtain ⟨w, h3, h4⟩ := r'.get he
    exact ⟨xs, ys, v, w, seqT (g.trans s.sub) h, seqT (g.trans s.sub) h', h1, h3⟩
  yld := fun T F σ G1 H δ i x H3 d g s hy hd => by
    obtain ⟨x1, y1, e1, e2, rfl⟩ := zipL_get hd
    obtain ⟨T, v1, v2, rfl, hT, rfl, q1, q2⟩ := hy
    obtain ⟨v, h1, h2⟩ := r.get e1
    obtain ⟨w, h3, h4⟩ := r'.get e2
    have z1 := q1 xs (seqT (g.trans s.sub) h)
    have z2 := q2 ys (seqT (g.trans s.sub) h')
    rw [h1] at z1
    rw [h3] at z2
    cases z1
    cases z2
    have gp := s.sub.free hT
    exact ⟨_, s.new hT, same_upd gp, .tup (.of upd_same) (.cons (h2.mono (g.trans (same_upd gp))) (.cons (h4.mono (g.trans (same_upd gp))) .nil))⟩
  stop := fun T F σ G1 H δ i g s hi => by
    rw [zipL_len] at hi
    refine ⟨xs, ys, seqT (g.trans s.sub) h, seqT (g.trans s.sub) h', ?_⟩
    rw [r.length, r'.length]
    omega
def zipD : List D → Option (List D)
  | [.lst xs, .lst ys] => some (zipL xs ys)
  | [.tup xs, .tup ys] => some (zipL xs ys)
  | _ => none
theorem fi_zip {a b : Expr} {f : M (List D)} {p pos tpos : Pos} {elts : List Expr} {kk : Nat} (hm : c.mg "zip" = none) (ha : FA c [a, b] f) (hg : Gb c "zip" := by rfl)
    (hs : ∀ env : Env, starEach [a, b] env = (false, eval a env) :: starEach [b] env := by intro _; rfl) (hpl : ∀ env : Env, (backTo pos (starEach [b] env)).any (·.1) = false := by intro _; rfl) :
    FI c (.Tuple elts kk tpos) (.Call (.Name "zip" p) [a, b] [] pos) (itM zipD f) := by
  obtain ⟨t, pa, sa⟩ := ha.ex
  refine ⟨RZ.iZipA c.K t, fun X h => by have := RZ.pi_zipA (elts := elts) (kk := kk) (tpos := tpos) (p := p) (pos := pos) (show X.env.scope.names.lookup _ = _ by rw [h.sc]; exact hg) (by rw [h.mg]; exact hm) (pa X h) (hs _) (hpl _); rwa [h.K] at this, fun F σ G H δ r s e Q p => ?_⟩
  refine sa.step s e p fun G1 H1 δ1 x ds s1 g1 rx e1 p1 => ?_
  obtain ⟨d, hd, rfl⟩ := liftO_eq e1
  unfold zipD at hd
  split at hd
  · cases hd
    cases rx with
    | cons h t =>
      cases t with
      | cons h' t =>
        cases t
        cases h with
        | lst a1 b1 =>
          cases h' with
          | lst a2 b2 => exact ⟨_, _, _, _, rfl, .inl ⟨.of (s1.sub _ _ a1), .of (s1.sub _ _ a2), p1 G1 H1 _ s1 (Same.refl _) (walks_zl a1 b1 a2 b2)⟩⟩
  · cases hd
    cases rx with
    | cons h t =>
      cases t with
      | cons h' t =>
        cases t
        cases h with
        | tup a1 b1 =>
          cases h' with
          | tup a2 b2 => exact ⟨_, _, _, _, rfl, .inr ⟨seqT s1.sub a1, seqT s1.sub a2, p1 G1 H1 _ s1 (Same.refl _) (walks_zt a1 b1 a2 b2)⟩⟩
  · cases hd
/-- enumerate of a list -/
def enumFrom (k : Nat) : List D → List D
  | [] => []
  | x :: xs => .tup [.int (k : Nat), x] :: enumFrom (k + 1) xs
theorem enumFrom_len : ∀ {k : Nat} {xs : List D}, (enumFrom k xs).length = xs.length
  | _, [] => rfl
  | k, x :: xs => by simp only [enumFrom, List.length_cons, enumFrom_len]
theorem enumFrom_get : ∀ {k : Nat} {xs : List D} {i : Nat} {d : D}, (enumFrom k xs)[i]? = some d → ∃ x, xs[i]? = some x ∧ d = .tup [.int ((k + i : Nat) : Int), x]
  | _, [], i, d, h => by simp [enumFrom] at h
  | k, x :: xs, 0, d, h => by simp [enumFrom] at h; exact ⟨x, rfl, h.symm⟩
  | k, x :: xs, i + 1, d, h => by
    have h' : (enumFrom (k + 1) xs)[i]? = some d := h
    obtain ⟨y, h1, h2⟩ := enumFrom_get h'
    exact ⟨y, h1, by rw [h2, show k + 1 + i = k + (i + 1) by omega]⟩
theorem walks_e {K : PySem.W.Frag} {G : Hp} {a : Addr} {xs : List V} {ds : List D} (h : G a = some (.lst xs)) (r : RepL K G xs ds) : Walks K G (Ite K a) (enumFrom 0 ds) where
  go := fun T F σ G1 H δ i g s hi => by
    rw [enumFrom_len] at hi
    obtain ⟨d, hd⟩ : ∃ d, ds[i]? = some d := ⟨_, List.getElem?_eq_getElem hi⟩
    obtain ⟨v, h1, h2⟩ := r.get hd
    exact ⟨xs, v, .of (s.sub _ _ (g _ _ h)), h1⟩
  yld := fun T F σ G1 H δ i x H3 d g s hy hd => by
    obtain ⟨x1, e1, rfl⟩ := enumFrom_get hd
    obtain ⟨T, v1, rfl, hT, rfl, q1⟩ := hy
    obtain ⟨v, h1, h2⟩ := r.get e1
    have z1 := q1 xs (.of (s.sub _ _ (g _ _ h)))
    rw [h1] at z1
    cases z1
    have gp := s.sub.free hT
    rw [show 0 + i = i by omega]
    exact ⟨_, s.new hT, same_upd gp, .tup (.of upd_same) (.cons (.int _) (.cons (h2.mono (g.trans (same_upd gp))) .nil))⟩
  stop := fun T F σ G1 H δ i g s hi => by
    rw [enumFrom_len] at hi
    exact ⟨xs, .of (s.sub _ _ (g _ _ h)), by rw [r.length]; exact hi⟩
def enumD : List D → Option (List D)
  | [.lst xs] => some (enumFrom 0 xs)
  | _ => none
theorem fi_enum {a : Expr} {f : M (List D)} {p pos tpos : Pos} {elts : List Expr} {kk : Nat} (hm : c.mg "enumerate" = none) (ha : FA c [a] f) (hg : Gb c "enumerate" := by rfl) (hs : ∀ env : Env, starEach [a] env = [(false, eval a env)] := by intro _; rfl) :
    FI c (.Tuple elts kk tpos) (.Call (.Name "enumerate" p) [a] [] pos) (itM enumD f) := by
  obtain ⟨t, pa, sa⟩ := ha.ex
  refine ⟨iEnum c.K t, fun X h => by have := pi_enum (elts := elts) (kk := kk) (tpos := tpos) (p := p) (pos := pos) (show X.env.scope.names.lookup _ = _ by rw [h.sc]; exact hg) (by rw [h.mg]; exact hm) (pa X h) (hs _); rwa [h.K] at this, fun F σ G H δ r s e Q p => ?_⟩
  refine sa.step s e p fun G1 H1 δ1 x ds s1 g1 rx e1 p1 => ?_
  obtain ⟨d, hd, rfl⟩ := liftO_eq e1
  unfold enumD at hd
  split at hd
  · cases hd
    cases rx with
    | cons h t =>
      cases t
      cases h with
      | lst a1 b1 => exact ⟨_, _, rfl, .of (s1.sub _ _ a1), p1 G1 H1 _ s1 (Same.refl _) (walks_e a1 b1)⟩
  · cases hd

/-! ### targets -/
def Agr (is : List Nat) (σ σ' : L2.St) : Prop := σ'.length = σ.length ∧ ∀ j, j ∉ is → σ'[j]? = σ[j]?
theorem Agr.refl (is : List Nat) (σ : L2.St) : Agr is σ σ := ⟨rfl, fun _ _ => rfl⟩
theorem Agr.trans {is : List Nat} {a b d : L2.St} (x : Agr is a b) (y : Agr is b d) : Agr is a d := ⟨y.1.trans x.1, fun j h => (y.2 j h).trans (x.2 j h)⟩
theorem Agr.mono {is js : List Nat} {a b : L2.St} (x : Agr is a b) (h : ∀ j ∈ is, j ∈ js) : Agr js a b := ⟨x.1, fun j hj => x.2 j fun z => hj (h j z)⟩
structure FG (c : SC) (tg : Expr) (is : List Nat) (bd : D → De → Option De) : Prop where
  ex : ∃ g, (∀ X, In c X → PG X tg g) ∧ ∀ F σ G H δ v d δ', S c.κ F σ G H δ → Rep c.K G v d → bd d δ = some δ' → ∀ Q, (∀ σ', S c.κ F σ' G H δ' → Agr is σ σ' → Q σ' H) → g v σ H Q
structure FGs (c : SC) (tgs : List Expr) (is : List Nat) (bd : List D → De → Option De) : Prop where
  ex : ∃ g, (∀ X, In c X → PGs X tgs g) ∧ ∀ F σ G H δ vs ds δ', S c.κ F σ G H δ → RepL c.K G vs ds → bd ds δ = some δ' → ∀ Q, (∀ σ', S c.κ F σ' G H δ' → Agr is σ σ' → Q σ' H) → g vs σ H Q
  len : ∀ ds δ δ', bd ds δ = some δ' → ds.length = tgs.length
def bName (i : Nat) : D → De → Option De := fun d δ => some (δ.set i (.val d))
theorem Agr.set (i : Nat) (σ : L2.St) (v : Option V) : Agr [i] σ (σ.set i v) := ⟨by simp, fun j h => by rw [List.getElem?_set_ne]; simpa using Ne.symm (by simpa using h)⟩
theorem fg_name (i : Nat) {x : Str} {pos : Pos} (nd : c.N.Nodup) (hi : c.N[i]? = some x := by rfl) (hx : Loc c.sc x := by first | exact Or.inl rfl | exact Or.inr rfl) (hst : c.st x = true := by rfl) : FG c (.Name x pos) [i] (bName i) := by
  refine ⟨gName i, fun X h => pg_name (by rw [h.N]; exact nd) (by rw [h.N]; exact hi) (by rw [h.sc]; exact hx) (h.fn x hst), fun F σ G H δ v d δ' s r e Q q => ?_⟩
  cases e
  exact q _ (s.store i r) (Agr.set i σ _)
def bNil : List D → De → Option De := fun ds δ => match ds with | [] => some δ | _ => none
def bCons (b : D → De → Option De) (r : List D → De → Option De) : List D → De → Option De := fun ds δ => match ds with
  | d :: ds => match b d δ with
    | some δ' => r ds δ'
    | none => none
  | [] => none
theorem fgs_nil : FGs c [] [] bNil := by
  refine ⟨⟨gNil, fun _ _ => pgs_nil, fun F σ G H δ vs ds δ' s r e Q q => ?_⟩, fun ds δ δ' h => ?_⟩
  · cases ds with
    | nil => cases e; cases r; exact ⟨rfl, q _ s (Agr.refl _ _)⟩
    | cons _ _ => cases e
  · cases ds with
    | nil => rfl
    | cons _ _ => cases h
theorem fgs_cons {e : Expr} {es : List Expr} {is js : List Nat} {b : D → De → Option De} {r : List D → De → Option De} (h1 : FG c e is b) (h2 : FGs c es js r)
    (hs : ∀ env : Env, (assignEach (e :: es) env).map (·.2) = assign e env :: (assignEach es env).map (·.2) := by intro _; rfl) : FGs c (e :: es) (is ++ js) (bCons b r) := by
  obtain ⟨g1, p1, s1⟩ := h1.ex
  obtain ⟨g2, p2, s2⟩ := h2.ex
  refine ⟨⟨_, fun X h => pgs_cons (p1 X h) (p2 X h) (hs _), fun F σ G H δ vs ds δ' s rr e Q q => ?_⟩, fun ds δ δ' h => ?_⟩
  · cases rr with
    | nil => cases e
    | cons hv ht =>
      rename_i v vs d ds
      unfold bCons at e
      dsimp only at e
      cases hb : b d δ with
      | none => rw [hb] at e; cases e
      | some δ1 =>
        rw [hb] at e
        exact ⟨v, vs, rfl, s1 F σ G H δ v d δ1 s hv hb _ fun σ1 t1 a1 => s2 F σ1 G H δ1 vs ds δ' t1 ht e Q fun σ2 t2 a2 => q σ2 t2 ((a1.mono fun j hj => List.mem_append_left _ hj).trans (a2.mono fun j hj => List.mem_append_right _ hj))⟩
  · cases ds with
    | nil => cases h
    | cons d ds =>
      unfold bCons at h
      dsimp only at h
      cases hb : b d δ with
      | none => rw [hb] at h; cases h
      | some δ1 => rw [hb] at h; simp only [List.length_cons, h2.len ds δ1 δ' h]
def bTup (r : List D → De → Option De) : D → De → Option De := fun d δ => match seqOf d with
  | some ds => r ds δ
  | none => none
theorem pg_or {X : Cx} {tg : Expr} {t t' : TG} (h : PG X tg t) (h' : PG X tg t') : PG X tg (fun v σ H Q => t v σ H Q ∨ t' v σ H Q) :=
  ⟨fun pins s σ H v u Q I r q => q.elim (h.run pins s σ H v u Q I r) (h'.run pins s σ H v u Q I r)⟩
theorem fg_tup {es : List Expr} {is : List Nat} {r : List D → De → Option De} {k : Nat} {pos : Pos} (h : FGs c es is r)
    (hn : ∀ env : Env, (assignEach es env).length = es.length := by intro _; rfl) (hst : ∀ env : Env, (assignEach es env).findIdx? (·.1) = none := by intro _; rfl) : FG c (.Tuple es k pos) is (bTup r) := by
  obtain ⟨g, p, sp⟩ := h.ex
  refine ⟨fun v σ H Q => gTup c.K es.length g v σ H Q ∨ gUnl c.K es.length g v σ H Q, fun X h => by have := pg_or (pg_tup (k := k) (pos := pos) h.calm (p X h) (hn _) (hst _)) (pg_unl (k := k) (pos := pos) h.calm (p X h) (hn _) (hst _)); rwa [h.K] at this, fun F σ G H δ v d δ' s rr e Q q => ?_⟩
  unfold bTup at e
  cases d <;> simp only [seqOf, reduceCtorEq] at e
  · rename_i ds
    cases rr with
    | lst h1 h2 => exact .inr ⟨_, _, rfl, .of (s.sub _ _ h1), by rw [h2.length]; exact h.len _ _ _ e, sp F σ G H δ _ ds δ' s h2 e Q q⟩
  · rename_i ds
    cases rr with
    | tup h1 h2 => exact .inl ⟨_, _, rfl, seqT s.sub h1, by rw [h2.length]; exact h.len _ _ _ e, sp F σ G H δ _ ds δ' s h2 e Q q⟩
end
end FL

set_option Elab.async false
set_option linter.all false
set_option maxRecDepth 100000
set_option maxHeartbeats 2000000
/-! FL5: statements, defs. -/
namespace FL
open PySem PySem.Spec PyProof.Rows L2
inductive Out where
  | nx (δ : De) | rt (d : D) | ex (c : Nat) | bk (δ : De) | ct (δ : De)
abbrev Fo := De → Option Out
section
variable (κ : PySem.W.Frag × List (Addr × PySem.Str)) (cl : Nat → Addr) (E : XK) (F : Hp) (G : Hp)
def PostS (Dn : Ends) : Out → Prop
  | .nx δ' => ∀ σ' G' H', S κ F σ' G' H' δ' → Same G G' → Dn.nx σ' H'
  | .bk δ' => ∀ σ' G' H', S κ F σ' G' H' δ' → Same G G' → Dn.bk σ' H'
  | .ct δ' => ∀ σ' G' H', S κ F σ' G' H' δ' → Same G G' → Dn.ct σ' H'
  | .rt d => ∀ σ' G' H' δ' v, S κ F σ' G' H' δ' → Same G G' → Rep κ.1 G' v d → Dn.rt v H'
  | .ex c => ∀ G' H', Same G G' → Same G' H' → Same F H' → E (.ref (cl c)) none H'
end
def SpS (κ : PySem.W.Frag × List (Addr × PySem.Str)) (cl : Nat → Addr) (E : XK) (t : TS) (f : Fo) : Prop :=
  ∀ F σ G H δ o, S κ F σ G H δ → f δ = some o → ∀ Dn, PostS κ cl E F G Dn o → t Dn σ H
structure FS1 (c : SC) (st : Stmt) (f : Fo) : Prop where
  ex : ∃ t, (∀ X, In c X → PS X st t) ∧ SpS c.κ c.cl c.E t f
structure FS (c : SC) (sts : List Stmt) (f : Fo) : Prop where
  ex : ∃ t, (∀ X, In c X → PSs X sts t) ∧ SpS c.κ c.cl c.E t f
theorem PostS.weak {K : PySem.W.Frag} {T : List (Addr × PySem.Str)} {cl : Nat → Addr} {E : XK} {F G G1 : Hp} {Dn : Ends} (e : Same G G1) : ∀ {o : Out}, PostS (K, T) cl E F G Dn o → PostS (K, T) cl E F G1 Dn o
  | .nx _, h => fun σ' G' H' s g => h σ' G' H' s (e.trans g)
  | .bk _, h => fun σ' G' H' s g => h σ' G' H' s (e.trans g)
  | .ct _, h => fun σ' G' H' s g => h σ' G' H' s (e.trans g)
  | .rt _, h => fun σ' G' H' δ' v s g => h σ' G' H' δ' v s (e.trans g)
  | .ex _, h => fun G' H' g => h G' H' (e.trans g)
/-- an expression's outcome, then the rest -/
def thenS {α : Type} (m : M α) (k : α → Fo) : Fo := fun δ => match m δ with
  | none => none
  | some (.ex c) => some (.ex c)
  | some (.ok a δ') => k a δ'
@[simp] theorem thenS_pure {α : Type} (a : α) (k : α → Fo) : thenS (pureM a) k = k a := rfl
theorem Sp2.stepS {K : PySem.W.Frag} {T : List (Addr × PySem.Str)} {cl : Nat → Addr} {E : XK} {ν α : Type} {RA : Hp → ν → α → Prop} {ta : L2.St → Hp → (ν → Hp → Prop) → Prop} {fa : M α} (ha : Sp2 (K, T) cl E RA ta fa) {F : Hp} {σ : L2.St} {G H : Hp} {δ : De} {g : α → Fo} {o : Out} {Dn : Ends} {k : ν → Hp → Prop}
    (s : S (K, T) F σ G H δ) (e : thenS fa g δ = some o) (p : PostS (K, T) cl E F G Dn o)
    (hk : ∀ G' H' δ' x a, S (K, T) F σ G' H' δ' → Same G G' → RA G' x a → g a δ' = some o → PostS (K, T) cl E F G' Dn o → k x H') : ta σ H k := by
  unfold thenS at e
  cases h : fa δ with
  | none => rw [h] at e; cases e
  | some ra =>
    rw [h] at e
    refine ha F σ G H δ ra s h _ ?_
    cases ra with
    | ex c =>
      cases e
      exact p
    | ok a δ' => exact fun G' H' v s' g' rv => hk G' H' δ' v a s' g' rv e (p.weak g')
def nxS : Fo := fun δ => some (.nx δ)
def seqS (f g : Fo) : Fo := fun δ => match f δ with
  | some (.nx δ') => g δ'
  | o => o
section
variable {c : SC}
theorem fs_nil : FS c [] nxS := ⟨_, fun _ _ => pss_nil, fun F σ G H δ o s e Dn p => by cases e; exact p σ G H s (Same.refl _)⟩
theorem fs_one {st : Stmt} {f : Fo} (h : FS1 c st f) : FS c [st] f := by
  obtain ⟨t, p, s⟩ := h.ex
  exact ⟨t, fun X h => pss_one (p X h), s⟩
theorem fs_cons {st : Stmt} {r : List Stmt} {f g : Fo} (h : FS1 c st f) (h' : FS c r g) : FS c (st :: r) (seqS f g) := by
  obtain ⟨t, p, s⟩ := h.ex
  obtain ⟨t', p', s'⟩ := h'.ex
  refine ⟨_, fun X h => pss_cons (p X h) (p' X h), fun F σ G H δ o st e Dn q => ?_⟩
  unfold seqS at e
  cases h : f δ with
  | none => rw [h] at e; cases e
  | some o1 =>
    rw [h] at e
    refine s F σ G H δ o1 st h _ ?_
    cases o1 with
    | nx δ1 =>
      dsimp only at e
      exact fun σ1 G1 H1 s1 g1 => s' F σ1 G1 H1 δ1 o s1 e Dn (q.weak g1)
    | rt d => cases e; exact q
    | ex k => cases e; exact q
    | bk δ1 => cases e; exact q
    | ct δ1 => cases e; exact q
theorem fs_pass {pos} : FS1 c (.Pass pos) nxS := ⟨_, fun _ _ => ps_pass, fun F σ G H δ o s e Dn p => by cases e; exact p σ G H s (Same.refl _)⟩
theorem fs_break {pos} : FS1 c (.Break pos) (fun δ => some (.bk δ)) := ⟨_, fun _ _ => ps_break, fun F σ G H δ o s e Dn p => by cases e; exact p σ G H s (Same.refl _)⟩
theorem fs_continue {pos} : FS1 c (.Continue pos) (fun δ => some (.ct δ)) := ⟨_, fun _ _ => ps_continue, fun F σ G H δ o s e Dn p => by cases e; exact p σ G H s (Same.refl _)⟩
theorem fs_ret {e : Expr} {f : M D} {pos} (h : FE c e f) : FS1 c (.Return (some e) pos) (thenS f fun d _ => some (.rt d)) := by
  obtain ⟨t, pa, sa⟩ := h.ex
  refine ⟨_, fun X h => ps_ret (pa X h), fun F σ G H δ o s e Dn p => ?_⟩
  refine sa.stepS s e p fun G1 H1 δ1 x d s1 g1 rx e1 p1 => ?_
  cases e1
  exact p1 σ G1 H1 δ1 x s1 (Same.refl _) rx
theorem fs_retN {pos} : FS1 c (.Return none pos) (fun _ => some (.rt .non)) :=
  ⟨_, fun _ _ => ps_retN, fun F σ G H δ o s e Dn p => by cases e; exact p σ G H δ _ s (Same.refl _) .non⟩
theorem fs_if {e : Expr} {a b : List Stmt} {t : M Bool} {f g : Fo} {pos} (h : FT c e t) (ha : FS c a f) (hb : FS c b g) : FS1 c (.If e a b pos) (thenS t fun k => if k then f else g) := by
  obtain ⟨tt, pt, st⟩ := h.ex
  obtain ⟨ta, pa, sa⟩ := ha.ex
  obtain ⟨tb, pb, sb⟩ := hb.ex
  refine ⟨_, fun X h => ps_if (pt X h) (pa X h) (pb X h), fun F σ G H δ o s e Dn p => ?_⟩
  refine st.stepS s e p fun G1 H1 δ1 x k s1 g1 rx e1 p1 => ?_
  have ek : x = k := rx
  subst ek
  cases x with
  | true => rw [if_pos rfl]; exact sa F σ G1 H1 δ1 o s1 e1 Dn p1
  | false => rw [if_neg Bool.false_ne_true]; exact sb F σ G1 H1 δ1 o s1 e1 Dn p1
/-- x = e -/
theorem fs_set (i : Nat) {x : Str} {e : Expr} {f : M D} {pos pos' : Pos} (nd : c.N.Nodup) (he : FE c e f) (hi : c.N[i]? = some x := by rfl) (hx : Loc c.sc x := by first | exact Or.inl rfl | exact Or.inr rfl) (hst : c.st x = true := by rfl)
    (hs : ∀ env : Env, env.scope = c.sc → swapsWith e (some (.Name x pos')) pos.line env = pure false := by intro _ _; rfl) : FS1 c (.Assign [.Name x pos'] e pos) (thenS f fun d δ => some (.nx (δ.set i (.val d)))) := by
  obtain ⟨t, pa, sa⟩ := he.ex
  refine ⟨_, fun X h => ps_set (i := i) (by rw [h.N]; exact nd) (by rw [h.N]; exact hi) (by rw [h.sc]; exact hx) (pa X h) (hs _ h.sc) (h.fn x hst), fun F σ G H δ o s e Dn p => ?_⟩
  refine sa.stepS s e p fun G1 H1 δ1 v d s1 g1 rx e1 p1 => ?_
  cases e1
  exact p1 _ G1 H1 (s1.store i rx) (Same.refl _)
/-- x = [..], a list of one's own -/
theorem fs_setOwn (i : Nat) {x : Str} {es : List Expr} {f : M (List D)} {pos pos' p2 : Pos} (nd : c.N.Nodup) (he : FA c es f) (hi : c.N[i]? = some x := by rfl) (hx : Loc c.sc x := by first | exact Or.inl rfl | exact Or.inr rfl) (hst : c.st x = true := by rfl)
    (hs : ∀ env : Env, env.scope = c.sc → swapsWith (.List es p2) (some (.Name x pos')) pos.line env = pure false := by intro _ _; rfl) : FS1 c (.Assign [.Name x pos'] (.List es p2) pos) (thenS f fun ds δ => if ds.length ≤ 1000000 then some (.nx (δ.set i (.own ds))) else none) := by
  obtain ⟨t, pa, sa⟩ := he.ex
  refine ⟨_, fun X h => ps_set (i := i) (by rw [h.N]; exact nd) (by rw [h.N]; exact hi) (by rw [h.sc]; exact hx) (pe_lst (pa X h)) (hs _ h.sc) (h.fn x hst), fun F σ G H δ o s e Dn p => ?_⟩
  refine sa.stepS s e p fun G1 H1 δ1 vs ds s1 g1 rx e1 p1 => ?_
  split at e1
  · rename_i hl
    cases e1
    exact ⟨by rw [rx.length]; exact small6 hl, fun q hq => p1 _ G1 _ (s1.storeOwn i hq rx) (Same.refl _)⟩
  · cases e1
/-- a, b = e (not two displays) -/
theorem fs_asg {tg e : Expr} {f : M D} {is : List Nat} {bd : D → De → Option De} {pos : Pos} (he : FE c e f) (hg : FG c tg is bd)
    (hs : ∀ env : Env, env.scope = c.sc → swapsWithSole [tg] e pos.line env = pure false := by intro _ _; rfl) (hw : ∀ env : Env, env.scope = c.sc → swappedStores [tg] e env = pure none := by intro _ _; rfl)
    (h1 : ∀ env : Env, (assignEach [tg] env).map (·.2) = [assign tg env] := by intro _; rfl) : FS1 c (.Assign [tg] e pos) (thenS f fun d δ => (bd d δ).map .nx) := by
  obtain ⟨t, pa, sa⟩ := he.ex
  obtain ⟨g, pg, sg⟩ := hg.ex
  refine ⟨_, fun X h => ps_asg (pa X h) (pg X h) (hs _ h.sc) (hw _ h.sc) (h1 _), fun F σ G H δ o s e Dn p => ?_⟩
  refine sa.stepS s e p fun G1 H1 δ1 v d s1 g1 rx e1 p1 => ?_
  cases hb : bd d δ1 with
  | none => rw [hb] at e1; cases e1
  | some δ2 =>
    rw [hb] at e1
    cases e1
    exact sg F σ G1 H1 δ1 v d δ2 s1 rx hb _ fun σ' s' a => p1 σ' G1 H1 s' (Same.refl _)
/-- a, b = x, y -/
theorem fs_par (i j : Nat) {x y : Str} {a b : Expr} {f : M (List D)} {px py pt : Pos} {kt k2 pt2} {pos : Pos} (nd : c.N.Nodup) (ha : FA c [a, b] f) (hi : c.N[i]? = some x := by rfl) (hj : c.N[j]? = some y := by rfl) (hij : i ≠ j := by decide)
    (hx : c.sc.names.lookup x = some .local := by rfl) (hy : c.sc.names.lookup y = some .local := by rfl)
    (hw : ∀ env : Env, env.scope = c.sc → swappedStores [.Tuple [.Name x px, .Name y py] kt pt] (.Tuple [a, b] k2 pt2) env = pure (some [x, y]))
    (hs : ∀ env : Env, env.scope = c.sc → swapsWithSole [.Tuple [.Name x px, .Name y py] kt pt] (.Tuple [a, b] k2 pt2) pos.line env = pure false := by intro _ _; rfl) :
    FS1 c (.Assign [.Tuple [.Name x px, .Name y py] kt pt] (.Tuple [a, b] k2 pt2) pos) (thenS f fun ds δ => match ds with | [d, e] => some (.nx ((δ.set i (.val d)).set j (.val e))) | _ => none) := by
  obtain ⟨t, pa, sa⟩ := ha.ex
  refine ⟨_, fun X h => ps_par h.calm (by rw [h.N]; exact nd) (by rw [h.N]; exact hi) (by rw [h.N]; exact hj) hij (by rw [h.sc]; exact hx) (by rw [h.sc]; exact hy) (pa X h) (hw _ h.sc) (hs _ h.sc), fun F σ G H δ o s e Dn p => ?_⟩
  refine sa.stepS s e p fun G1 H1 δ1 vs ds s1 g1 rx e1 p1 => ?_
  split at e1
  · cases e1
    cases rx with
    | cons h t =>
      cases t with
      | cons h' t =>
        cases t
        exact ⟨_, _, rfl, p1 _ G1 H1 ((s1.store i h).store j h') (Same.refl _)⟩
  · cases e1
/-- an expression alone -/
theorem fs_expr {e : Expr} {f : M D} {pos : Pos} (he : FE c e f) (hs : ∀ env : Env, env.scope = c.sc → swapsWith e none pos.line env = pure false := by intro _ _; rfl) : FS1 c (.Expr e pos) (thenS f fun _ => nxS) := by
  obtain ⟨t, pa, sa⟩ := he.ex
  refine ⟨_, fun X h => ps_expr (pa X h) (hs _ h.sc), fun F σ G H δ o s e Dn p => ?_⟩
  refine sa.stepS s e p fun G1 H1 δ1 v d s1 g1 rx e1 p1 => ?_
  cases e1
  exact p1 _ G1 H1 s1 (Same.refl _)
def ownAt (δ : De) (i : Nat) : Option (List D) := match δ[i]? with
  | some (.own xs) => some xs
  | _ => none
theorem ownAt_some {δ : De} {i : Nat} {xs : List D} (h : ownAt δ i = some xs) : δ[i]? = some (.own xs) := by
  unfold ownAt at h
  split at h
  · rename_i q; cases h; exact q
  · cases h
def appS (i : Nat) (f : M D) : Fo := fun δ => match ownAt δ i with
  | none => none
  | some _ => thenS f (fun d δ => match ownAt δ i with
    | some xs => if xs.length < 1000000 then some (.nx (δ.set i (.own (xs ++ [d])))) else none
    | none => none) δ
theorem lt6 {n : Nat} (h : n < 1000000) : n < sizeLine := by rw [sizeLine_eq]; omega
/-- x.append(e), x a list of one's own -/
theorem fs_append (i : Nat) {x : Str} {e : Expr} {f : M D} {p1 p2 p3 pos : Pos} (he : FE c e f) (hN : c.N[i]? = some x := by rfl) (hv : Vis c.sc x := by first | exact Or.inl rfl | exact Or.inr (Or.inl rfl) | exact Or.inr (Or.inr rfl))
    (hd : (x == ("__debug__" : Str)) = false := by decide) (hcd : (x == ("__classdict__" : Str)) = false := by decide)
    (hst : ∀ env : Env, starEach [e] env = (false, eval e env) :: starEach [] env := by intro _; rfl) (hpl : ∀ env : Env, (backTo p3 (starEach [] env)).any (·.1) = false := by intro _; rfl)
    (hb : ∀ env : Env, attributeBase (.Name x p1) "append" env (eval (.Name x p1) env) = eval (.Name x p1) env := by intro _; rfl)
    (hfew : ∀ env : Env, ((backTo p3 (starEach [e] env)).all (fun x => !x.1) && (backToKw p3 (keywordEach [] env)).all (fun x => x.1.isSome) && decide (([e] : List Expr).length + ([] : List Keyword).length + (if ([] : List Keyword).isEmpty then 0 else 1) < 30)) = true := by intro _; rfl)
    (hl : (p2.endLine == p3.line) = true := by rfl)
    (hs : ∀ env : Env, env.scope = c.sc → swapsWith (.Call (.Attribute (.Name x p1) "append" p2) [e] [] p3) none pos.line env = pure false := by intro _ _; rfl) :
    FS1 c (.Expr (.Call (.Attribute (.Name x p1) "append" p2) [e] [] p3) pos) (appS i f) := by
  obtain ⟨t, pa, sa⟩ := he.ex
  refine ⟨tDrop (tBM c.K "list" rAppend (tVar i) (tCons t tNil)), fun X h => ?_, fun F σ G H δ o s e Dn p => ?_⟩
  · have q := pe_bm (X := X) PySem.F.plainAttrs_list PySem.F.slot_list_append PySem.F.type_list_append mt_append (pe_var (i := i) (x := x) (pos := p1) (by rw [h.N]; exact hN) (by rw [h.sc]; exact hv) hd hcd) (pa_cons (pa X h) pa_nil (hst _)) (hb _) (hfew _) hl (hst _) (hpl _)
    rw [h.K] at q
    exact ps_expr q (hs _ h.sc)
  · unfold appS at e
    cases h0 : ownAt δ i with
    | none => rw [h0] at e; cases e
    | some xs0 =>
      rw [h0] at e
      dsimp only at e
      obtain ⟨q, vs, e1, e2, e3, e4, e5⟩ := s.own i xs0 (ownAt_some h0)
      refine ⟨_, e1, .inl ⟨rfl, _, .inl (.inl e2)⟩, ?_⟩
      refine sa.stepS s e p fun G1 H1 δ1 v d s1 g1 rx e1' p1 => ?_
      cases h1 : ownAt δ1 i with
      | none => rw [h1] at e1'; cases e1'
      | some xs =>
        rw [h1] at e1'
        dsimp only at e1'
        split at e1'
        · rename_i hl
          cases e1'
          obtain ⟨q', ws, f1, f2, f3, f4, f5⟩ := s1.own i xs (ownAt_some h1)
          rw [e1] at f1
          cases f1
          refine ⟨_, ws, v, rfl, rfl, f2, by rw [f3.length]; exact lt6 hl, ?_⟩
          exact p1 σ G1 _ (s1.setOwn (ownAt_some h1) e1 (f3.append (.cons rx .nil))) (Same.refl _)
        · cases e1'
/-- x[k] = e, x a list of one's own -/
def setIxS (i : Nat) (f g : M D) : Fo := thenS f fun d δ => match ownAt δ i with
  | none => none
  | some _ => thenS g (fun k δ => match k, ownAt δ i with
    | .int k, some xs => match ixN xs.length k with
      | some j => some (.nx (δ.set i (.own (xs.set j d))))
      | none => none
    | _, _ => none) δ
theorem fs_setIx (i : Nat) {x : Str} {e k : Expr} {f g : M D} {p1 p2 pos : Pos} (he : FE c e f) (hk : FE c k g) (hN : c.N[i]? = some x := by rfl) (hv : Vis c.sc x := by first | exact Or.inl rfl | exact Or.inr (Or.inl rfl) | exact Or.inr (Or.inr rfl))
    (hd : (x == ("__debug__" : Str)) = false := by decide) (hcd : (x == ("__classdict__" : Str)) = false := by decide)
    (ha : ∀ (env : Env) v, assign (.Subscript (.Name x p1) k p2) env v = (do
      let ov ← holding [v] (eval (.Name x p1) env)
      let iv ← holding [v, ov] (eval k env)
      standAt p2
      holding [v, ov, iv] (setItem ov iv v)
      release [v, ov, iv] []) := by intro _ _; rfl)
    (hs : ∀ env : Env, env.scope = c.sc → swapsWithSole [.Subscript (.Name x p1) k p2] e pos.line env = pure false := by intro _ _; rfl) (hw : ∀ env : Env, env.scope = c.sc → swappedStores [.Subscript (.Name x p1) k p2] e env = pure none := by intro _ _; rfl)
    (h1 : ∀ env : Env, (assignEach [.Subscript (.Name x p1) k p2] env).map (·.2) = [assign (.Subscript (.Name x p1) k p2) env] := by intro _; rfl) :
    FS1 c (.Assign [.Subscript (.Name x p1) k p2] e pos) (setIxS i f g) := by
  obtain ⟨t, pa, sa⟩ := he.ex
  obtain ⟨tk, pk, sk⟩ := hk.ex
  refine ⟨_, fun X h => ps_asg (pa X h) (pg_sub (pe_var (i := i) (x := x) (pos := p1) (by rw [h.N]; exact hN) (by rw [h.sc]; exact hv) hd hcd) (pk X h) set_list (ha _)) (hs _ h.sc) (hw _ h.sc) (h1 _), fun F σ G H δ o s e Dn p => ?_⟩
  refine sa.stepS s e p fun G1 H1 δ1 v d s1 g1 rx e1 p1 => ?_
  cases h0 : ownAt δ1 i with
  | none => rw [h0] at e1; cases e1
  | some xs0 =>
    rw [h0] at e1
    dsimp only at e1
    obtain ⟨q, vs, q1, q2, q3, q4, q5⟩ := s1.own i xs0 (ownAt_some h0)
    refine ⟨_, q1, ?_⟩
    refine sk.stepS s1 e1 p1 fun G2 H2 δ2 u k s2 g2 ry e2 p2 => ?_
    cases k <;> try (cases e2)
    rename_i kk
    cases ry
    cases h2 : ownAt δ2 i with
    | none => rw [h2] at e2; cases e2
    | some xs =>
      rw [h2] at e2
      dsimp only at e2
      cases h3 : ixN xs.length kk with
      | none => rw [h3] at e2; cases e2
      | some j =>
        rw [h3] at e2
        cases e2
        obtain ⟨q', ws, f1, f2, f3, f4, f5⟩ := s2.own i xs (ownAt_some h2)
        rw [q1] at f1
        cases f1
        refine ⟨_, ws, kk, j, rfl, rfl, f2, by rw [f3.length]; exact h3, ?_⟩
        exact p2 σ G2 _ (s2.setOwn (ownAt_some h2) q1 (f3.set (rx.mono g2) j)) (Same.refl _)
/-- a list of one's own is read as a value from now on: no step of the program -/
def freezeS (i : Nat) (f : Fo) : Fo := fun δ => match ownAt δ i with
  | some xs => f (δ.set i (.val (.lst xs)))
  | none => none
theorem fs_freeze (i : Nat) {sts : List Stmt} {f : Fo} (h : FS c sts f) : FS c sts (freezeS i f) := by
  obtain ⟨t, p, sp⟩ := h.ex
  refine ⟨t, p, fun F σ G H δ o s e Dn q => ?_⟩
  unfold freezeS at e
  cases h0 : ownAt δ i with
  | none => rw [h0] at e; cases e
  | some xs =>
    rw [h0] at e
    obtain ⟨a, vs, h1, h2, h3, h4, s'⟩ := s.freeze (ownAt_some h0)
    exact sp F σ _ H _ o s' e Dn (q.weak (same_upd h2))
/-- x op= e, ints -/
theorem fs_aug (i : Nat) {x : Str} {op : Operator} {g : Int → Int → Int} {e : Expr} {f : M D} {pos pos' : Pos} (nd : c.N.Nodup) (he : FE c e f) (ho : ∀ X, In c X → PIp X op (ipI g)) (hi : c.N[i]? = some x := by rfl) (hx : Loc c.sc x := by first | exact Or.inl rfl | exact Or.inr rfl) (hst : c.st x = true := by rfl) :
    FS1 c (.AugAssign (.Name x pos') op e pos) (thenS (bindM (varM i) fun a => bindM f fun b => liftO (int2 (fun i j => .int (g i j)) a b)) fun d δ => some (.nx (δ.set i (.val d)))) := by
  obtain ⟨t, pa, sa⟩ := he.ex
  refine ⟨_, fun X h => ps_aug (i := i) (by rw [h.N]; exact nd) (by rw [h.N]; exact hi) (by rw [h.sc]; exact hx) (pa X h) (ho X h) (h.fn x hst), fun F σ G H δ o s e Dn p => ?_⟩
  unfold thenS at e
  cases hv : varM i δ with
  | none => unfold bindM at e; rw [hv] at e; cases e
  | some ra =>
    cases ra with
    | ex k => unfold varM at hv; split at hv <;> cases hv
    | ok a δ' =>
      have ed : δ' = δ ∧ δ[i]? = some (.val a) := by
        unfold varM at hv
        split at hv
        · rename_i d hd; cases hv; exact ⟨rfl, hd⟩
        · cases hv
      obtain ⟨rfl, hd⟩ := ed
      rw [bindM_ok hv] at e
      obtain ⟨v, h1, h2⟩ := s.val i a hd
      refine ⟨v, h1, ?_⟩
      have e' : thenS (bindM f fun b => liftO (int2 (fun i j => .int (g i j)) a b)) (fun d δ => some (Out.nx (δ.set i (.val d)))) δ' = some o := e
      have sb : Sp2 c.κ c.cl c.E (Rep c.K) t f := sa
      -- f, then the operator
      have e2 : thenS f (fun b => thenS (liftO (int2 (fun i j => .int (g i j)) a b)) (fun d δ => some (Out.nx (δ.set i (.val d))))) δ' = some o := by
        rw [← e']
        unfold thenS bindM
        cases f δ' with
        | none => rfl
        | some rb => cases rb <;> rfl
      refine sb.stepS s e2 p fun G1 H1 δ1 u b s1 g1 ry e3 p1 => ?_
      cases hb : int2 (fun i j => .int (g i j)) a b with
      | none => rw [hb] at e3; cases e3
      | some d =>
        rw [hb] at e3
        cases e3
        unfold int2 at hb
        split at hb
        · cases hb
          cases h2
          cases ry
          exact ⟨_, _, rfl, rfl, p1 _ G1 H1 (s1.store i (.int _)) (Same.refl _)⟩
        · cases hb
/-! raise X('..') -/
structure ExcC (K : PySem.W.Frag) (mg : Str → Option Value) (x : Str) (C : Addr) : Prop where
  g : mg x = some (.ref C)
  x : PySem.W.excIn K C [.type "ValueError", .type "Exception", .type "BaseException", .type "object"] "ValueError.__new__" = true
  k : PySem.W.keepIn K (.ref C) = true
  b : PySem.W.subIn K (.ref C) (.type "BaseException") = some true
  t : PySem.W.typeIn K (.ref C) = some (.type "type")
theorem fs_raise (n : Nat) {x m : Str} {j : Nat} {p p2 p3 pos : Pos} (h : ExcC c.K c.mg x (c.cl n)) (hg : Gb c x := by rfl) (hdb : (x == ("__debug__" : Str)) = false := by decide) :
    FS1 c (.Raise (some (.Call (.Name x p) [.Constant (.str m) j p2] [] p3)) none pos) (fun _ => some (.ex n)) := by
  refine ⟨_, fun X q => ps_raise q.calm q.tk (pmk_own PySem.F.excBase_ValueError (by rw [q.K]; exact h.x) (by rw [q.mg]; exact h.g) (by rw [q.K]; exact h.k) (raises_own (by rw [q.K]; exact h.b) (by rw [q.K]; exact h.t)) (show X.env.scope.names.lookup _ = _ by rw [q.sc]; exact hg) hdb), fun F σ G H δ o s e Dn p => ?_⟩
  cases e
  exact p G H (Same.refl _) s.sub s.frm
/-! for -/
def forD (bd : D → De → Option De) (body : Fo) : List D → Fo
  | [], δ => some (.nx δ)
  | x :: r, δ => match bd x δ with
    | none => none
    | some δ1 => match body δ1 with
      | some (.nx δ2) => forD bd body r δ2
      | some (.ct δ2) => forD bd body r δ2
      | some (.bk δ2) => some (.nx δ2)
      | o => o
theorem fs_for {tg iter : Expr} {body : List Stmt} {items : M (List D)} {is : List Nat} {bd : D → De → Option De} {f : Fo} {pos : Pos} (hi : FI c tg iter items) (hg : FG c tg is bd) (hb : FS c body f)
    (hs : ∀ (env : Env) x, foldedSetIterable iter env x = pure x := by intro _ _; rfl) : FS1 c (.For tg iter body [] pos) (thenS items fun ds => forD bd f ds) := by
  obtain ⟨wi, pi, si⟩ := hi.ex
  obtain ⟨g, pg, sg⟩ := hg.ex
  obtain ⟨t, pb, sb⟩ := hb.ex
  refine ⟨_, fun X h => ps_for h.po h.calm (pi X h) (pg X h) (pb X h) (hs _), fun F σ G H δ o s e Dn p => ?_⟩
  refine si.stepS s e p fun G1 H1 δ1 J ds s1 g1 W e1 p1 => ?_
  refine ⟨fun i m σ H => m = ds.length - i ∧ i ≤ ds.length ∧ ∃ G2 δ2, Same G1 G2 ∧ S c.κ F σ G2 H δ2 ∧ forD bd f (ds.drop i) δ2 = some o, ⟨ds.length, by simp, Nat.zero_le _, G1, δ1, Same.refl _, s1, e1⟩, ?_⟩
  rintro i m σ2 H2 ⟨rfl, hi, G2, δ2, g2, s2, e2⟩
  by_cases hl : i < ds.length
  · have hd : ds[i]? = some ds[i] := List.getElem?_eq_getElem hl
    have edr : ds.drop i = ds[i] :: ds.drop (i + 1) := (List.drop_eq_getElem_cons hl)
    rw [edr, forD] at e2
    cases hbd : bd ds[i] δ2 with
    | none => rw [hbd] at e2; cases e2
    | some δ3 =>
      rw [hbd] at e2
      dsimp only at e2
      refine .inr ⟨W.go _ F σ2 G2 H2 δ2 i g2 s2 hl, fun σ' H' => ∃ G5 δ5, Same G1 G5 ∧ S c.κ F σ' G5 H' δ5 ∧ forD bd f (ds.drop (i + 1)) δ5 = some o, fun σ' H' ⟨G5, δ5, z1, z2, z3⟩ => ⟨ds.length - (i + 1), by omega, rfl, hl, G5, δ5, z1, z2, z3⟩, fun x H3 hy => ?_⟩
      obtain ⟨G3, s3, g3, rx⟩ := W.yld _ F σ2 G2 H2 δ2 i x H3 _ g2 s2 hy hd
      refine sg F σ2 G3 H3 δ2 x _ δ3 s3 rx hbd _ fun σ3 s4 _ => ?_
      have g13 : Same G1 G3 := g2.trans g3
      cases hf : f δ3 with
      | none => rw [hf] at e2; cases e2
      | some o1 =>
        rw [hf] at e2
        refine sb F σ3 G3 H3 δ3 o1 s4 hf _ ?_
        cases o1 with
        | nx δ4 => exact fun σ' G' H' s' g' => ⟨G', δ4, g13.trans g', s', e2⟩
        | ct δ4 => exact fun σ' G' H' s' g' => ⟨G', δ4, g13.trans g', s', e2⟩
        | bk δ4 => cases e2; exact fun σ' G' H' s' g' => p1 σ' G' H' s' (g13.trans g')
        | rt d => cases e2; exact fun σ' G' H' δ' v s' g' rv => p1 σ' G' H' δ' v s' (g13.trans g') rv
        | ex k => cases e2; exact fun G' H' g' => p1 G' H' (g13.trans g')
  · have ei : i = ds.length := by omega
    subst ei
    rw [List.drop_length] at e2
    cases e2
    exact .inl ⟨W.stop _ F σ2 G2 H2 δ2 _ g2 s2 (Nat.le_refl _), p1 σ2 G2 H2 s2 g2⟩
end

/-! ### defs -/
def startD (N : List Str) (ds : List D) : De := ds.map Sl.val ++ List.replicate (N.length - ds.length) Sl.un
def outRes : Option Out → Option Res
  | some (.rt d) => some (.ret d)
  | some (.nx _) => some (.ret .non)
  | some (.ex k) => some (.ex k)
  | _ => none
def defF (N : List Str) (n : Nat) (f : Fo) : DF := fun ds => if ds.length = n then outRes (f (startD N ds)) else none
theorem start_len {N : List Str} {vs : List V} (h : vs.length ≤ N.length) : (L2.start N vs).length = N.length := by
  unfold L2.start; simp; omega
theorem startD_len {N : List Str} {ds : List D} (h : ds.length ≤ N.length) : (startD N ds).length = N.length := by
  unfold startD; simp; omega
theorem S.start {K : PySem.W.Frag} {F G H : Hp} {N : List Str} {vs : List V} {ds : List D} (sub : Same G H) (frm : Same F H) (dis : ∀ b o, F b = some o → G b = none) (ng : ∀ b ps, G b ≠ some (.tbl ps)) (r : RepL K G vs ds) (h : ds.length ≤ N.length) : S (K, []) F (L2.start N vs) G H (startD N ds) := by
  have hv : vs.length ≤ N.length := by rw [r.length]; exact h
  have vl : ∀ (i : Nat) d, (startD N ds)[i]? = some (.val d) → ds[i]? = some d := fun i d e => by
    unfold startD at e
    rw [List.getElem?_append] at e
    split at e
    · rw [List.getElem?_map] at e
      cases q : ds[i]? with
      | none => rw [q] at e; cases e
      | some d' => rw [q] at e; cases e; rfl
    · rw [List.getElem?_replicate] at e
      split at e <;> cases e
  have no : ∀ (i : Nat) xs, (startD N ds)[i]? ≠ some (.own xs) := fun i xs e => by
    unfold startD at e
    rw [List.getElem?_append] at e
    split at e
    · rw [List.getElem?_map] at e
      cases q : ds[i]? with
      | none => rw [q] at e; cases e
      | some d' => rw [q] at e; cases e
    · rw [List.getElem?_replicate] at e
      split at e <;> cases e
  refine ⟨sub, frm, dis, by rw [startD_len h, start_len hv], fun i d e => ?_, fun i xs e => absurd e (no i xs), fun i j xs ys _ e => absurd e (no i xs), fun x hx => absurd (show x ∈ ([] : List (Addr × PySem.Str)) from hx) (by simp), fun x hx => absurd (show x ∈ ([] : List (Addr × PySem.Str)) from hx) (by simp), ng, .inl rfl⟩
  obtain ⟨v, h1, h2⟩ := r.get (vl i d e)
  refine ⟨v, ?_, h2⟩
  unfold L2.start
  rw [List.getElem?_append_left (by
    have := List.getElem?_eq_some_iff.mp h1
    obtain ⟨z, _⟩ := this
    simpa using z), List.getElem?_map, h1]
  rfl
/-- the body's word, for whatever is wanted of an exception, gives the def's -/
theorem fnD {P : Program} {w : World} {K : PySem.W.Frag} {mg : Str → Option Value} {base : Heap} {cl : Nat → Addr} {k : Nat} {x : Str} {st : Stmt} {a : Addr} {fd : FuncData} {N ps : List Str} {f : Fo} (Fn : Fun K x x st a fd) (Sc : FnScope N ps (defScope st)) (hm : mg x = some (.ref a)) (hb : Binds K fd ps []) (hN : ps.length ≤ N.length)
    (body : ∀ E : XK, FS ⟨P, w, K, mg, base, N, defScope st, k, cl, E, fun _ => true, [], .none, ""⟩ (defBody st) f) : FnD P w K mg base cl (k + 1) x (defF N ps.length f) := by
  refine ⟨a, fd, ps, hm, Fn.kp, hb, Fn.okX Sc (fun vs H Q E h => ?_) (fun cdv A outer s H vs Q E hr h => ?_)⟩
  · obtain ⟨F, G, ds, r, _, _, _, _, h1, h2, _⟩ := h
    unfold defF at h2
    split at h2
    · rename_i q; rw [h1.length, q]
    · cases h2
  · obtain ⟨F, G, ds, r, sub, frm, dis, ng, h1, h2, post⟩ := h
    unfold defF at h2
    split at h2
    · rename_i q
      obtain ⟨t, pt, sp⟩ := (body E).ex
      refine ⟨t, pt _ ⟨rfl, rfl, rfl, rfl, rfl, rfl, rfl, rfl, hr, takes_of rfl rfl rfl rfl, fun _ _ => Or.inl rfl, passes_of rfl, Or.inl rfl⟩, ?_⟩
      have s0 : S (K, []) F (L2.start N vs) G H (startD N ds) := S.start sub frm dis ng h1 (by omega)
      cases ho : f (startD N ds) with
      | none => rw [ho] at h2; cases h2
      | some o =>
        rw [ho] at h2
        refine sp F _ G H _ o s0 ho _ ?_
        cases o with
        | rt d => cases h2; exact fun σ' G' H' δ' v s' g' rv => post G' H' v g' s'.sub s'.frm s'.dis s'.ntg rv
        | nx δ' => cases h2; exact fun σ' G' H' s' g' => post G' H' _ g' s'.sub s'.frm s'.dis s'.ntg .non
        | ex c => cases h2; exact fun G' H' g' h' f' => post G' H' g' h' f'
        | bk δ' => cases h2
        | ct δ' => cases h2
    · cases h2
end FL

set_option Elab.async false
set_option linter.all false
set_option maxRecDepth 100000
set_option maxHeartbeats 2000000
/-! FL6: list comprehensions. -/
namespace FL
open PySem PySem.Spec PyProof.Rows L2
def blkSC (c : SC) (scope : Scope) : SC := { c with sc := relS scope c.sc, E := fun _ _ _ => False, st := fun x => scope.names.lookup x == some .local || scope.names.lookup x == some .cell }
theorem in_blk {c : SC} {X : Cx} {scope : Scope} (h : In c X) (s : Shared) (H : Hp) (C : Addr) (cl : List (Str × Addr)) (fp : List Addr) : In (blkSC c scope) (X.blk s H scope (compEnvC scope cl C X.env) fp) where
  P := h.P
  w := h.w
  K := h.K
  mg := h.mg
  base := h.base
  N := h.N
  sc := by show relS scope X.env.scope = relS scope c.sc; rw [h.sc]
  calm := h.calm
  room := h.room
  tk := L2.takes0
  fn := fun x hx => by
    have hx' : (scope.names.lookup x == some .local || scope.names.lookup x == some .cell) = true := hx
    rw [Bool.or_eq_true] at hx'
    rcases hx' with q | q
    · right
      show (relS scope X.env.scope).names.lookup x = some .local
      exact lookup_relS_keep (by decide) (beq_iff_eq.mp q)
    · left; exact q
  po := PassesOwn.never
  code := h.code
theorem wipe_get {σ : L2.St} {j : Nat} : ∀ {vs : List Nat}, (wipe σ vs)[j]? = if j ∈ vs then (σ[j]?).map (fun _ => none) else σ[j]?
  | [] => by simp [wipe]
  | v :: vs => by
    unfold wipe
    by_cases hv : v = j
    · subst hv
      rw [List.getElem?_set]
      simp only [if_true, List.mem_cons, true_or, wipe_length]
      split
      · rename_i hl; rw [List.getElem?_eq_getElem hl]; rfl
      · rename_i hl; rw [List.getElem?_eq_none_iff.mpr (by omega)]; rfl
    · rw [List.getElem?_set_ne hv, wipe_get (vs := vs)]
      have : (j ∈ v :: vs) ↔ j ∈ vs := by simp [Ne.symm hv]
      simp only [this]
theorem wipe_agr {σ σ' : L2.St} {is vs : List Nat} (a : Agr is (wipe σ vs) σ') (h : ∀ j ∈ is, j ∈ vs) : wipe σ' vs = wipe σ vs := by
  apply List.ext_getElem?
  intro j
  rw [wipe_get, wipe_get]
  by_cases hj : j ∈ vs
  · rw [if_pos hj, if_pos hj]
    have hl : σ'.length = σ.length := a.1.trans (wipe_length _ _)
    cases h1 : σ'[j]? with
    | none => rw [List.getElem?_eq_none_iff] at h1; rw [List.getElem?_eq_none_iff.mpr (by omega)]
    | some x =>
      obtain ⟨h2, _⟩ := List.getElem?_eq_some_iff.mp h1
      rw [List.getElem?_eq_getElem (show j < σ.length by omega)]
      rfl
  · rw [if_neg hj, if_neg hj, a.2 j fun z => hj (h j z), wipe_get, if_neg hj]
def wipeD (δ : De) : List Nat → De
  | [] => δ
  | v :: vs => (wipeD δ vs).set v .un
def restD (δ δ' : De) : List Nat → De
  | [] => δ'
  | v :: vs => (restD δ δ' vs).set v ((δ[v]?).getD .un)
theorem wipeD_len (δ : De) : ∀ vs : List Nat, (wipeD δ vs).length = δ.length
  | [] => rfl
  | v :: vs => by unfold wipeD; rw [List.length_set, wipeD_len δ vs]
theorem restD_len (δ δ' : De) : ∀ vs : List Nat, (restD δ δ' vs).length = δ'.length
  | [] => rfl
  | v :: vs => by unfold restD; rw [List.length_set, restD_len δ δ' vs]
theorem restD_get {δ δ' : De} {j : Nat} : ∀ {vs : List Nat}, (restD δ δ' vs)[j]? = if j ∈ vs then (δ'[j]?).map (fun _ => (δ[j]?).getD .un) else δ'[j]?
  | [] => by simp [restD]
  | v :: vs => by
    unfold restD
    by_cases hv : v = j
    · subst hv
      rw [List.getElem?_set]
      simp only [if_true, List.mem_cons, true_or, restD_len]
      split
      · rename_i hl; rw [List.getElem?_eq_getElem hl]; rfl
      · rename_i hl; rw [show δ'[v]? = none from List.getElem?_eq_none_iff.mpr (by omega)]; rfl
    · rw [List.getElem?_set_ne hv, restD_get (vs := vs)]
      have : (j ∈ v :: vs) ↔ j ∈ vs := by simp [Ne.symm hv]
      simp only [this]
def noOwn (δ : De) (vs : List Nat) : Bool := vs.all fun v => (ownAt δ v).isNone
section
variable {K : PySem.W.Frag} {T : List (Addr × PySem.Str)} {F G H : Hp} {σ : L2.St} {δ : De}
theorem S.wipes (s : S (K, T) F σ G H δ) : ∀ vs : List Nat, S (K, T) F (L2.wipe σ vs) G H (wipeD δ vs)
  | [] => s
  | v :: vs => (S.wipes s vs).wipe v none
theorem S.relist {D : Addr} {a b : List V} (s : S (K, T) (upd F D (.lst a)) σ G H δ) : S (K, T) (upd F D (.lst b)) σ G (upd H D (.lst b)) δ := by
  have gd : G D = none := s.dis D _ upd_same
  refine ⟨fun x o e => ?_, fun x o e => ?_, fun x o e => ?_, s.len, s.val, fun i xs e => ?_, s.inj, tabs_lst s.tab (s.frm D _ upd_same), fun x hx => ⟨?_, (s.tnf x hx).2⟩, s.ntg, s.ntf.imp_right fun z b o e => ?_⟩
  · rw [upd_ne (ne_of_none e gd)]; exact s.sub _ _ e
  · by_cases hx : x = D
    · subst hx; rw [upd_same] at e ⊢; exact e
    · rw [upd_ne hx] at e ⊢; exact s.frm x o (by rw [upd_ne hx]; exact e)
  · by_cases hx : x = D
    · subst hx; exact gd
    · rw [upd_ne hx] at e; exact s.dis x o (by rw [upd_ne hx]; exact e)
  · obtain ⟨p, vs, h1, h2, h3, h4, h5⟩ := s.own i xs e
    have np : p ≠ D := fun z => by subst z; rw [upd_same] at h5; cases h5
    rw [upd_ne np] at h5
    exact ⟨p, vs, h1, by rw [upd_ne np]; exact h2, h3, h4, by rw [upd_ne np]; exact h5⟩
  · have q := (s.tnf x hx).1
    have nx : x.1 ≠ D := fun z => by rw [z, upd_same] at q; cases q
    rw [upd_ne nx] at q ⊢
    exact q
  · by_cases hb : b = D
    · subst hb; rw [upd_same] at e; exact ⟨_, (Option.some.inj e).symm⟩
    · rw [upd_ne hb] at e; exact z b o (by rw [upd_ne hb]; exact e)
/-- the comprehension's list joins the callers' for a while -/
theorem S.enter (s : S (K, T) F σ G H δ) {D : Addr} {a : List V} (h : H D = none) : S (K, T) (upd F D (.lst a)) σ G (upd H D (.lst a)) δ := by
  have gd : G D = none := s.sub.free h
  have s1 := s.newH (o := .lst a) h
  refine ⟨s1.sub, fun x o e => ?_, fun x o e => ?_, s.len, s.val, fun i xs e => ?_, s.inj, s1.tab, fun x hx => ⟨?_, (s.tnf x hx).2⟩, s.ntg, s.ntf.imp_right fun z b o e => ?_⟩
  · by_cases hx : x = D
    · subst hx; rw [upd_same] at e ⊢; exact e
    · rw [upd_ne hx] at e; exact s1.frm x o e
  · by_cases hx : x = D
    · subst hx; exact gd
    · rw [upd_ne hx] at e; exact s.dis x o e
  · obtain ⟨p, vs, h1, h2, h3, h4, h5⟩ := s1.own i xs e
    have np : p ≠ D := fun z => by
      subst z
      obtain ⟨q, ws, e1, e2, _⟩ := s.own i xs e
      rw [h1] at e1; cases e1
      rw [h] at e2; cases e2
    exact ⟨p, vs, h1, h2, h3, h4, by rw [upd_ne np]; exact h5⟩
  · obtain ⟨ps, hp⟩ := s.tab_at hx
    rw [upd_ne (ne_of_none hp h)]
    exact (s.tnf x hx).1
  · by_cases hb : b = D
    · subst hb; rw [upd_same] at e; exact ⟨_, (Option.some.inj e).symm⟩
    · rw [upd_ne hb] at e; exact z b o e
theorem S.leave {D : Addr} {a : List V} (s : S (K, T) (upd F D (.lst a)) σ G H δ) (hf : F D = none) : S (K, T) F σ (upd G D (.lst a)) H δ := by
  have gd : G D = none := s.dis D _ upd_same
  have sg : Same G (upd G D (.lst a)) := same_upd gd
  refine ⟨fun x o e => ?_, fun x o e => ?_, fun x o e => ?_, s.len, fun i d e => ?_, fun i xs e => ?_, s.inj, s.tab, fun x hx => ?_, fun b ps e => ?_, s.ntf.imp_right fun z b o e => ?_⟩
  · by_cases hx : x = D
    · subst hx; rw [upd_same] at e; rw [← e]; exact s.frm x _ upd_same
    · rw [upd_ne hx] at e; exact s.sub x o e
  · exact s.frm x o (by rw [upd_ne (ne_of_none e hf)]; exact e)
  · rw [upd_ne (ne_of_none e hf)]; exact s.dis x o (by rw [upd_ne (ne_of_none e hf)]; exact e)
  · obtain ⟨v, h1, h2⟩ := s.val i d e
    exact ⟨v, h1, h2.mono sg⟩
  · obtain ⟨p, vs, h1, h2, h3, h4, h5⟩ := s.own i xs e
    have np : p ≠ D := fun z => by subst z; rw [upd_same] at h5; cases h5
    rw [upd_ne np] at h5
    exact ⟨p, vs, h1, h2, h3.mono sg, by rw [upd_ne np]; exact h4, h5⟩
  · have q := s.tnf x hx
    have nx : x.1 ≠ D := fun z => by rw [z, upd_same] at q; exact nomatch q.1
    rw [upd_ne nx] at q ⊢
    exact q
  · by_cases hb : b = D
    · subst hb; rw [upd_same] at e; cases e
    · rw [upd_ne hb] at e; exact s.ntg b ps e
  · by_cases hb : b = D
    · subst hb; rw [hf] at e; cases e
    · exact z b o (by rw [upd_ne hb]; exact e)
theorem S.unblock {G0 H0 : Hp} {σ0 : L2.St} {δ0 : De} {vs : List Nat} (s : S (K, T) F σ G H δ) (s0 : S (K, T) F σ0 G0 H0 δ0) (g : Same G0 G) (ag : ∀ j, j ∉ vs → σ[j]? = σ0[j]?) (hl : σ.length = σ0.length) (no : noOwn δ0 vs = true) : S (K, T) F σ0 G H (restD δ0 δ vs) := by
  have own0 : ∀ v ∈ vs, ∀ xs, δ0[v]? ≠ some (.own xs) := fun v hv xs e => by
    have := List.all_eq_true.mp no v hv
    unfold ownAt at this
    rw [e] at this
    cases this
  have back : ∀ (j : Nat) xs, (restD δ0 δ vs)[j]? = some (.own xs) → j ∉ vs ∧ δ[j]? = some (.own xs) := fun j xs e => by
    rw [restD_get] at e
    split at e
    · rename_i hj
      cases h1 : δ[j]? with
      | none => rw [h1] at e; cases e
      | some z =>
        rw [h1] at e
        simp only [Option.map_some, Option.some.injEq] at e
        cases h2 : δ0[j]? with
        | none => rw [h2] at e; cases e
        | some y =>
          rw [h2] at e
          simp only [Option.getD_some] at e
          subst e
          exact absurd h2 (own0 j hj xs)
    · rename_i hj
      exact ⟨hj, e⟩
  refine ⟨s.sub, s.frm, s.dis, by rw [restD_len, s.len, hl], fun i d e => ?_, fun i xs e => ?_, fun i j xs ys hn e1 e2 => ?_, s.tab, s.tnf, s.ntg, s.ntf⟩
  · rw [restD_get] at e
    split at e
    · cases h1 : δ[i]? with
      | none => rw [h1] at e; cases e
      | some z =>
        rw [h1] at e
        simp only [Option.map_some, Option.some.injEq] at e
        cases h2 : δ0[i]? with
        | none => rw [h2] at e; cases e
        | some y =>
          rw [h2] at e
          simp only [Option.getD_some] at e
          subst e
          obtain ⟨v, q1, q2⟩ := s0.val i d h2
          exact ⟨v, q1, q2.mono g⟩
    · rename_i hj
      obtain ⟨v, q1, q2⟩ := s.val i d e
      exact ⟨v, by rw [← ag i hj]; exact q1, q2⟩
  · obtain ⟨hj, e'⟩ := back i xs e
    obtain ⟨p, ws, q1, q2⟩ := s.own i xs e'
    exact ⟨p, ws, by rw [← ag i hj]; exact q1, q2⟩
  · obtain ⟨hi, e1'⟩ := back i xs e1
    obtain ⟨hj, e2'⟩ := back j ys e2
    rw [← ag i hi, ← ag j hj]
    exact s.inj i j xs ys hn e1' e2'
end
structure FTs (c : SC) (ifs : List Expr) (f : M Bool) : Prop where
  ex : ∃ t, (∀ X, In c X → PTs X ifs t) ∧ Sp2 c.κ c.cl c.E RepB t f
section
variable {c : SC}
theorem fts_nil : FTs c [] (pureM true) := ⟨tYes, fun _ _ => pts_nil, Sp2.pure (v := true) fun _ => rfl⟩
theorem fts_one {e : Expr} {f : M Bool} (h : FT c e f) : FTs c [e] f := by
  obtain ⟨t, p, s⟩ := h.ex
  exact ⟨t, fun X h => pts_one (p X h), s⟩
def lcD (vs : List Nat) (bd : D → De → Option De) (tt : M Bool) (fe : M D) : List D → M (List D)
  | [], δ => some (.ok [] δ)
  | x :: r, δ => if noOwn δ vs then match bd x (wipeD δ vs) with
    | none => none
    | some δ1 => match tt δ1 with
      | some (.ok true δ2) => match fe δ2 with
        | some (.ok y δ3) => match lcD vs bd tt fe r (restD δ δ3 vs) with
          | some (.ok ys δ4) => some (.ok (y :: ys) δ4)
          | _ => none
        | _ => none
      | some (.ok false δ2) => lcD vs bd tt fe r (restD δ δ2 vs)
      | _ => none
    else none
def lcM (vs : List Nat) (bd : D → De → Option De) (tt : M Bool) (fe : M D) (items : M (List D)) : M D :=
  bindM items fun ds => if ds.length < 1000000 then bindM (lcD vs bd tt fe ds) fun ys => pureM (.lst ys) else fun _ => none
theorem sp_lc {K : PySem.W.Frag} {T : List (Addr × PySem.Str)} {cl : Nat → Addr} {E : XK} {wi : TI} {g : TG} {t : TT} {te : TE} {items : M (List D)} {is vs : List Nat} {bd : D → De → Option De} {tt : M Bool} {fe : M D}
    (si : Sp2 (K, T) cl E (Walks K) wi items) (sg : ∀ F σ G H δ v d δ', S (K, T) F σ G H δ → Rep K G v d → bd d δ = some δ' → ∀ Q, (∀ σ', S (K, T) F σ' G H δ' → Agr is σ σ' → Q σ' H) → g v σ H Q)
    (st : Sp2 (K, T) cl (fun _ _ _ => False) RepB t tt) (se : Sp2 (K, T) cl (fun _ _ _ => False) (Rep K) te fe) (his : ∀ i ∈ is, i ∈ vs) :
    Sp2 (K, T) cl E (Rep K) (tLc wi g t te vs) (lcM vs bd tt fe items) := by
  intro F σ G H δ r s e Q p
  refine si.step s e p fun G1 H1 δ1 J ds s1 g1 W e1 p1 => ?_
  split at e1
  · rename_i hlen
    intro D hD
    have fD : F D = none := s1.frm.free hD
    -- the end's word
    cases hlc : lcD vs bd tt fe ds δ1 with
    | none => unfold bindM at e1; rw [hlc] at e1; cases e1
    | some rr =>
      cases rr with
      | ex k =>
        exfalso
        -- a comprehension hands no exception on
        have : ∀ (ds : List FL.D) δ k, lcD vs bd tt fe ds δ ≠ some (.ex k) := by
          intro ds
          induction ds with
          | nil => intro δ k h; cases h
          | cons x r ih =>
            intro δ k h
            rw [lcD] at h
            repeat' split at h
            all_goals first | cases h | exact ih _ _ h
        exact this _ _ _ hlc
      | ok ysA δf =>
        rw [bindM_ok hlc] at e1
        cases e1
        refine ⟨fun i m H => m = ds.length - i ∧ i ≤ ds.length ∧ ∃ G2 δ2 accV accD ys, Same G1 G2 ∧ S (K, T) (upd F D (.lst accV)) σ G2 H δ2 ∧ RepL K G2 accV accD ∧ accD.length ≤ i ∧ lcD vs bd tt fe (ds.drop i) δ2 = some (.ok ys δf) ∧ ysA = accD ++ ys,
          ⟨ds.length, by simp, Nat.zero_le _, G1, δ1, [], [], ysA, Same.refl _, s1.enter hD, .nil, Nat.zero_le _, hlc, rfl⟩, ?_⟩
        rintro i m H2 ⟨rfl, hi, G2, δ2, accV, accD, ys, g2, s2, ra, hla, e2, ey⟩
        by_cases hl : i < ds.length
        · have hd : ds[i]? = some ds[i] := List.getElem?_eq_getElem hl
          rw [List.drop_eq_getElem_cons hl, lcD] at e2
          split at e2
          · rename_i hno
            refine .inr ⟨W.go _ _ σ G2 H2 δ2 i g2 s2 hl, fun H' => ∃ G5 δ5 accV' accD' ys', Same G1 G5 ∧ S (K, T) (upd F D (.lst accV')) σ G5 H' δ5 ∧ RepL K G5 accV' accD' ∧ accD'.length ≤ i + 1 ∧ lcD vs bd tt fe (ds.drop (i + 1)) δ5 = some (.ok ys' δf) ∧ ysA = accD' ++ ys',
              fun H' z => ⟨ds.length - (i + 1), by omega, rfl, hl, z⟩, fun x H3 hy => ?_⟩
            obtain ⟨G3, s3, g3, rx⟩ := W.yld _ _ (wipe σ vs) G2 H2 (wipeD δ2 vs) i x H3 _ g2 (s2.wipes vs) hy hd
            cases hbd : bd ds[i] (wipeD δ2 vs) with
            | none => rw [hbd] at e2; cases e2
            | some δ3 =>
              rw [hbd] at e2
              dsimp only at e2
              refine sg _ (wipe σ vs) G3 H3 _ x _ δ3 s3 rx hbd _ fun σ3 s4 ag => ⟨wipe_agr ag his, ?_⟩
              have g23 : Same G2 G3 := g3
              have agr3 : ∀ j, j ∉ vs → σ3[j]? = σ[j]? := fun j hj => by
                rw [ag.2 j fun z => hj (his j z), wipe_get, if_neg hj]
              have len3 : σ3.length = σ.length := ag.1.trans (wipe_length _ _)
              cases ht : tt δ3 with
              | none => rw [ht] at e2; cases e2
              | some rt =>
                rw [ht] at e2
                cases rt with
                | ex k => cases e2
                | ok b δ4 =>
                  refine st _ σ3 G3 H3 δ3 _ s4 ht _ fun G4 H4 b' s5 g4 rb => ?_
                  have eb : b' = b := rb
                  subst eb
                  cases b' with
                  | false =>
                    rw [if_neg Bool.false_ne_true]
                    dsimp only at e2
                    exact ⟨G4, _, accV, accD, ys, g2.trans (g23.trans g4), s5.unblock s2 (g23.trans g4) agr3 len3 hno, ra.mono (g23.trans g4), by omega, e2, ey⟩
                  | true =>
                    rw [if_pos rfl]
                    dsimp only at e2
                    cases hf : fe δ4 with
                    | none => rw [hf] at e2; cases e2
                    | some rf =>
                      rw [hf] at e2
                      cases rf with
                      | ex k => cases e2
                      | ok y δ5 =>
                        dsimp only at e2
                        refine se _ σ3 G4 H4 δ4 _ s5 hf _ fun G5 H5 v s6 g5 ry => ?_
                        have g25 : Same G2 G5 := g23.trans (g4.trans g5)
                        cases hr : lcD vs bd tt fe (ds.drop (i + 1)) (restD δ2 δ5 vs) with
                        | none => rw [hr] at e2; cases e2
                        | some rr2 =>
                          rw [hr] at e2
                          cases rr2 with
                          | ex k => cases e2
                          | ok ys2 δ6 =>
                            cases e2
                            refine ⟨accV, s6.frm D _ upd_same, by rw [ra.length]; rw [sizeLine_eq]; omega, G5, restD δ2 δ5 vs, accV ++ [v], accD ++ [y], ys2, g2.trans g25, (s6.unblock s2 g25 agr3 len3 hno).relist, (ra.mono g25).append (.cons ry .nil), by rw [List.length_append]; simp; omega, hr, by rw [ey, List.append_assoc]; rfl⟩
          · cases e2
        · have ei : i = ds.length := by omega
          subst ei
          rw [List.drop_length] at e2
          cases e2
          have gd : G2 D = none := s2.dis D _ upd_same
          refine .inl ⟨W.stop _ _ σ G2 H2 _ _ g2 s2 (Nat.le_refl _), ?_⟩
          rw [List.append_nil] at ey
          subst ey
          exact p1 (upd G2 D (.lst accV)) H2 _ (s2.leave fD) (g2.trans (same_upd gd)) (.lst upd_same (ra.mono (same_upd gd)))
  · cases e1
theorem fe_lc {elt tg iter : Expr} {ifs : List Expr} {scope : Scope} (own : List (Str × Nat)) {pos : Pos} {items : M (List D)} {is : List Nat} {bd : D → De → Option De} {tt : M Bool} {fe : M D} (nd : c.N.Nodup) (hi : FI c tg iter items) (ok : blkC c.N c.sc scope own = true)
    (hg : FG (blkSC c scope) tg is bd) (ht : FTs (blkSC c scope) ifs tt) (he : FE (blkSC c scope) elt fe) (his : ∀ i ∈ is, i ∈ own.map (·.2)) (hs : ∀ (env : Env) x, foldedSetIterable iter env x = pure x := by intro _ _; rfl) :
    FE c (.ListComp elt [⟨tg, iter, ifs, 0⟩] scope pos) (lcM (own.map (·.2)) bd tt fe items) := by
  obtain ⟨wi, pi, si⟩ := hi.ex
  obtain ⟨g, pg, sg⟩ := hg.ex
  obtain ⟨t, pt, st⟩ := ht.ex
  obtain ⟨te, pe, se⟩ := he.ex
  exact ⟨_, fun X h => pe_lc h.calm (by rw [h.N]; exact nd) (pi X h) (by rw [h.N, h.sc]; exact blkOk_by ok) (fun s H C cl fp => pg _ (in_blk h s H C cl fp)) (fun s H C cl fp => pt _ (in_blk h s H C cl fp)) (fun s H C cl fp => pe _ (in_blk h s H C cl fp)) (hs _), sp_lc si sg st se his⟩
/-- y = [..] on one line -/
theorem fs_setLc (i : Nat) {y : Str} {py : Pos} {elt tg iter : Expr} {ifs : List Expr} {scope : Scope} (own : List (Str × Nat)) {pos spos : Pos} {items : M (List D)} {is : List Nat} {bd : D → De → Option De} {tt : M Bool} {fe : M D} (nd : c.N.Nodup) (hi : FI c tg iter items) (ok : blkC c.N c.sc scope own = true)
    (hg : FG (blkSC c scope) tg is bd) (ht : FTs (blkSC c scope) ifs tt) (he : FE (blkSC c scope) elt fe) (his : ∀ i ∈ is, i ∈ own.map (·.2))
    (hy : c.N[i]? = some y := by rfl) (hyl : c.sc.names.lookup y = some .local := by rfl)
    (hsw : ∀ env : Env, env.scope = c.sc → swapsWith (.ListComp elt [⟨tg, iter, ifs, 0⟩] scope pos) (some (.Name y py)) spos.line env = pure true)
    (hs : ∀ (env : Env) x, foldedSetIterable iter env x = pure x := by intro _ _; rfl) :
    FS1 c (.Assign [.Name y py] (.ListComp elt [⟨tg, iter, ifs, 0⟩] scope pos) spos) (thenS (lcM (own.map (·.2)) bd tt fe items) fun d δ => some (.nx (δ.set i (.val d)))) := by
  obtain ⟨wi, pi, si⟩ := hi.ex
  obtain ⟨g, pg, sg⟩ := hg.ex
  obtain ⟨t, pt, st⟩ := ht.ex
  obtain ⟨te, pe, se⟩ := he.ex
  refine ⟨tAsg (tLc wi g t te (own.map (·.2))) (gName i), fun X h => ?_, fun F σ G H δ o s e Dn p => ?_⟩
  · exact ps_setLc h.calm (by rw [h.N]; exact nd) (by rw [h.N]; exact hy) (by rw [h.sc]; exact hyl) (hsw _ h.sc) (pi X h) (by rw [h.N, h.sc]; exact blkOk_by ok) (fun s H C cl fp => pg _ (in_blk h s H C cl fp)) (fun s H C cl fp => pt _ (in_blk h s H C cl fp)) (fun s H C cl fp => pe _ (in_blk h s H C cl fp)) (hs _)
  · refine (sp_lc (cl := c.cl) (E := c.E) si sg st se his).stepS s e p fun G1 H1 δ1 v d s1 g1 rx e1 p1 => ?_
    cases e1
    exact p1 _ G1 H1 (s1.store i rx) (Same.refl _)
end
end FL

set_option Elab.async false
set_option linter.all false
set_option maxRecDepth 100000
set_option maxHeartbeats 2000000
/-! FL7: max with a default; the law's dice. -/
namespace FL
open PySem PySem.Spec PyProof.Rows L2
theorem foldl_max : ∀ (n : Int) (ns : List Int), ns.foldl max n = maxL (n :: ns)
  | n, [] => rfl
  | n, m :: r => by
    rw [List.foldl_cons, foldl_max (max n m) r]
    have key : ∀ (l : List Int) (a b : Int), maxL (max a b :: l) = maxL (a :: b :: l) := by
      intro l a b
      apply Int.le_antisymm
      · have := maxL_mem (l := max a b :: l) (by simp)
        rcases List.mem_cons.mp this with h | h
        · rw [h]
          rcases Int.le_total a b with q | q
          · rw [Int.max_eq_right q]; exact maxL_le (by simp)
          · rw [Int.max_eq_left q]; exact maxL_le (by simp)
        · exact maxL_le (by simp [h])
      · have := maxL_mem (l := a :: b :: l) (by simp)
        rcases List.mem_cons.mp this with h | h
        · rw [h]; exact Int.le_trans (Int.le_max_left a b) (maxL_le (by simp))
        · rcases List.mem_cons.mp h with h | h
          · rw [h]; exact Int.le_trans (Int.le_max_right a b) (maxL_le (by simp))
          · exact maxL_le (by simp [h])
    exact key r n m
def rMaxDf (K : PySem.W.Frag) : List V → List V → Hp → VK → Prop := fun xs zs H Q => ∃ (a : Addr) (ns : List Int) (z : V), xs = [.ref a] ∧ SqL K H a (ns.map V.int) ∧ zs = [z] ∧ (ns = [] → Q z H) ∧ (ns ≠ [] → Q (.int (maxL ns)) H)
theorem intsAre_reads {h : Heap} : ∀ {us : List Value} {ns : List Int}, IntsAre us ns → ReadsAll h us (ns.map .int) []
  | _, _, .nil => .nil
  | _, _, .cons n t r => by
    have := ReadsAll.cons (Reads.int (h := h) n t) (intsAre_reads r)
    simpa using this
theorem call_maxDf {X : Cx} (hc : X.calm = true) (hu : X.A.units + 64 < cLine) : CallRK X (.builtin "max") [("default" : Str)] (rMaxDf X.K) := by
  intro pins s σ H xs zs us ws Q I rx rz q
  obtain ⟨a, ns, z, rfl, hs, rfl, q0, q1⟩ := q
  obtain ⟨its, rv, ⟨o, n, ho, hcl, hdi, hda⟩, hz⟩ := I.list hs
  obtain ⟨u, rfl, ru⟩ := Vals.one rx
  obtain ⟨wv, rfl, rw⟩ := Vals.one rz
  cases ru
  have hl : s.heap.IsList a its.toArray := ⟨o, ho, hcl, n, hda⟩
  have hi := Vals.ints rv
  show wpAny _ _ (call (.builtin "max") [.ref a] [(Str.ofString "default", wv)]) _ _ _
  refine PySem.W.max_list_default (xs := ns.map .int) (as := []) (I.ok.hd hc) hl (intsAre_reads hi) ⟨?_, ?_⟩ ?_ ?_ ?_
  · intro x hx y hy
    obtain ⟨i, _, rfl⟩ := List.mem_map.mp hx
    obtain ⟨j, _, rfl⟩ := List.mem_map.mp hy
    rfl
  · intro x hx
    obtain ⟨i, _, rfl⟩ := List.mem_map.mp hx
    intro z; cases z
  · rw [PySem.W.depth_ints]; omega
  · intro e h' tk hk
    have : ns = [] := by simpa using e
    exact ⟨z, H, I.kept hk, rw, q0 this⟩
  · intro y ys i v h' tk bs e hv r hk
    cases ns with
    | nil => cases e
    | cons m ms =>
      rw [List.map_cons] at e
      cases e
      rw [PySem.W.maxD_ints, foldl_max] at r
      cases r
      exact ⟨.int (maxL (m :: ms)), H, I.kept hk, ⟨_, rfl⟩, q1 (by simp)⟩
section
variable {c : SC}
def maxDfM (f g : M D) : M D := bindM f fun d => bindM g fun e => match d with
  | .lst ds => match intsOf ds with
    | some [] => pureM e
    | some (n :: r) => pureM (.int (maxL (n :: r)))
    | none => fun _ => none
  | _ => fun _ => none
theorem fe_maxDf {p pos kp : Pos} {e d : Expr} {f g : M D} (hm : c.mg "max" = none) (ha : FE c e f) (hd : FE c d g) (hg : Gb c "max" := by rfl)
    (hs : ∀ env : Env, starEach [e] env = (false, eval e env) :: starEach [] env := by intro _; rfl)
    (he : ∀ env : Env, backTo pos (starEach [e] env) = (false, eval e env) :: backTo pos (starEach [] env) := by intro _; rfl) (hpl : ∀ env : Env, (backTo pos (starEach [e] env)).any (·.1) = false := by intro _; rfl)
    (hall : ∀ env : Env, (backToKw pos (keywordEach [⟨some "default", d, kp⟩] env)).all (·.1.isSome) = true := by intro _; rfl) (hnone : ∀ env : Env, (backToKw pos (keywordEach [⟨some "default", d, kp⟩] env)).any (·.1.isNone) = false := by intro _; rfl)
    (hks : ∀ env : Env, (backToKw pos (keywordEach [⟨some "default", d, kp⟩] env)).filterMap (·.1) = [("default" : Str)] := by intro _; rfl) :
    FE c (.Call (.Name "max" p) [e] [⟨some "default", d, kp⟩] pos) (maxDfM f g) := by
  obtain ⟨ta, pa, sa⟩ := ha.ex
  obtain ⟨td, pd, sd⟩ := hd.ex
  refine ⟨tCKw (rMaxDf c.K) (tCons ta tNil) (tCons td tNil), fun X h => ?_, fun F σ G H δ r s e Q p => ?_⟩
  · have q := call_maxDf (X := X) h.calm h.units
    rw [h.K] at q
    exact pe_callBK q (show X.env.scope.names.lookup _ = _ by rw [h.sc]; exact hg) (by rw [h.mg]; exact hm) (by first | exact PyProof.Rows.boot_max | decide +kernel) (pa_cons (pa X h) pa_nil (hs _)) (pk_cons (pd X h) pk_nil) (by decide) (by decide) (he _) (hpl _) (hall _) (hnone _) (hks _)
  · refine sa.step s e p fun G1 H1 δ1 x d s1 g1 rx e1 p1 => ?_
    refine sd.step s1 e1 p1 fun G2 H2 δ2 y e' s2 g2 ry e2 p2 => ?_
    cases d <;> try (cases e2)
    rename_i ds
    dsimp only at e2
    have rx2 := rx.mono g2
    cases rx2 with
    | lst h1 h2 =>
      cases hi : intsOf ds with
      | none => rw [hi] at e2; cases e2
      | some ns =>
        rw [hi] at e2
        rw [intsOf_some hi] at h2
        have ev := h2.ints'
        subst ev
        refine ⟨_, ns, y, rfl, .of (s2.sub _ _ h1), rfl, fun hn => ?_, fun hn => ?_⟩
        · subst hn
          cases e2
          exact p2 G2 H2 _ s2 (Same.refl _) ry
        · cases ns with
          | nil => exact absurd rfl hn
          | cons n r => cases e2; exact p2 G2 H2 _ s2 (Same.refl _) (.int _)
end

/-! ### the law's dice -/
def rollF (x y z m : Int) : Int × Int × Int × Int :=
  if z = 2 ∨ (z = 1 ∧ 0 < x) then (x % m, x / m, y, z)
  else ((((x * 48271 + y * 69621 + 11) % 2147483647) / 7 + (x * 48271 + y * 69621 + 11) % 2147483647) % m, (x * 48271 + y * 69621 + 11) % 2147483647, y + 1, 0)
theorem rollF_lo (x y z m : Int) (h : 0 < m) : 0 ≤ (rollF x y z m).1 := by
  unfold rollF
  split
  · exact Int.emod_nonneg _ (by omega)
  · exact Int.emod_nonneg _ (by omega)
theorem rollF_hi (x y z m : Int) (h : 0 < m) : (rollF x y z m).1 < m := by
  unfold rollF
  split
  · exact Int.emod_lt_of_pos _ h
  · exact Int.emod_lt_of_pos _ h
def ints3 (x y z : Int) : HO := .lst [.int x, .int y, .int z]
def spRoll : Sp := fun vs H Q _ => ∃ (p : Addr) (x y z m : Int), vs = [.ref p, .int m] ∧ H p = some (ints3 x y z) ∧ 0 < m ∧ m < 1073741824 ∧
  Q (.int (rollF x y z m).1) (upd H p (ints3 (rollF x y z m).2.1 (rollF x y z m).2.2.1 (rollF x y z m).2.2.2))
end FL

set_option Elab.async false
set_option linter.all false
set_option maxRecDepth 100000
set_option maxHeartbeats 2000000
/-! FL8: the law's own words: a roll of the dice; a lambda told. -/
namespace FL
open PySem PySem.Spec PyProof.Rows L2
/-! ### _law_roll(dice, e) -/
structure RollD (P : Program) (w : World) (K : PySem.W.Frag) (mg : Str → Option Value) (base : Heap) : Prop where
  ex : ∃ (a : Addr) (fd : FuncData), mg "_law_roll" = some (.ref a) ∧ PySem.W.keepIn K (.ref a) = true ∧ Binds K fd ["dice", "many"] [] ∧ FnOk P w K mg base (L2.CX P w) 1 a fd ["dice", "many"] spRoll
def rollK (i : Nat) (m : D) : M D := fun δ => match m, ownAt δ i with
  | .int m, some [.int x, .int y, .int z] => if 0 < m ∧ m < 1073741824 then some (.ok (.int (rollF x y z m).1) (δ.set i (.own [.int (rollF x y z m).2.1, .int (rollF x y z m).2.2.1, .int (rollF x y z m).2.2.2]))) else none
  | _, _ => none
def rollM (i : Nat) (f : M D) : M D := fun δ => match ownAt δ i with
  | none => none
  | some _ => bindM f (rollK i) δ
section
variable {c : SC}
theorem fe_roll (i : Nat) {x : Str} {e : Expr} {f : M D} {p p1 pos : Pos} (Rd : RollD c.P c.w c.K c.mg c.base) (he : FE c e f) (hk : Nat.ble 1 c.k = true := by rfl) (hN : c.N[i]? = some x := by rfl) (hv : Vis c.sc x := by first | exact Or.inl rfl | exact Or.inr (Or.inl rfl) | exact Or.inr (Or.inr rfl))
    (hg : Gb c "_law_roll" := by rfl) (hd : (x == ("__debug__" : Str)) = false := by decide) (hcd : (x == ("__classdict__" : Str)) = false := by decide)
    (h1 : ∀ env : Env, starEach [.Name x p1, e] env = (false, eval (.Name x p1) env) :: starEach [e] env := by intro _; rfl) (h2 : ∀ env : Env, starEach [e] env = (false, eval e env) :: starEach [] env := by intro _; rfl)
    (hpl : ∀ env : Env, (backTo pos (starEach [e] env)).any (·.1) = false := by intro _; rfl) :
    FE c (.Call (.Name "_law_roll" p) [.Name x p1, e] [] pos) (rollM i f) := by
  obtain ⟨t, pa, sa⟩ := he.ex
  obtain ⟨a, fd, q1, q2, q3, q4⟩ := Rd.ex
  refine ⟨tCallS spRoll (WE fun cls d _ H => c.E cls d H) (tCons (tVar i) (tCons t tNil)), fun X h => ?_, fun F σ G H δ r s e Q p => ?_⟩
  · have q4' : FnOk X.prog X.w X.K X.mg X.base (L2.CX X.prog X.w) 1 a fd ["dice", "many"] spRoll := by rw [h.P, h.w, h.K, h.mg, h.base]; exact q4
    exact pe_callS q4' (h.room.mono (Nat.le_of_ble_eq_true hk)) (show X.env.scope.names.lookup _ = _ by rw [h.sc]; exact hg) (by rw [h.mg]; exact q1) (by rw [h.K]; exact q2) (by rw [h.K]; exact q3) (fun σ => passAt h.tk σ) (pa_cons (pe_var (i := i) (x := x) (pos := p1) (by rw [h.N]; exact hN) (by rw [h.sc]; exact hv) hd hcd) (pa_cons (pa X h) pa_nil (h2 _)) (h1 _)) (by decide) (h1 _) (hpl _)
  · unfold rollM at e
    cases h0 : ownAt δ i with
    | none => rw [h0] at e; cases e
    | some xs0 =>
      rw [h0] at e
      dsimp only at e
      obtain ⟨q, vs, e1, e2, e3, e4, e5⟩ := s.own i xs0 (ownAt_some h0)
      refine ⟨_, e1, ?_⟩
      refine sa.step s e p fun G1 H1 δ1 v d s1 g1 rx e1' p1 => ?_
      unfold rollK at e1'
      split at e1'
      · rename_i m x y z ho
        split at e1'
        · rename_i hm
          cases e1'
          cases rx
          obtain ⟨q', ws, f1, f2, f3, f4, f5⟩ := s1.own i _ (ownAt_some ho)
          rw [e1] at f1
          cases f1
          have ew : ws = [V.int x, V.int y, V.int z] := RepL.ints' (ns := [x, y, z]) f3
          subst ew
          refine ⟨q, x, y, z, m, rfl, f2, hm.1, hm.2, ?_⟩
          exact p1 G1 _ _ (s1.setOwn (ownAt_some ho) e1 (RepL.ints [(rollF x y z m).2.1, (rollF x y z m).2.2.1, (rollF x y z m).2.2.2])) (Same.refl _) (.int _)
        · cases e1'
      · cases e1'

/-! ### _law_told(lambda: e) -/
def hideOwn (δ : De) : De := δ.map fun
  | .own _ => .un
  | x => x
theorem S.hide {K : PySem.W.Frag} {T : List (Addr × PySem.Str)} {F G H : Hp} {σ : L2.St} {δ : De} (s : S (K, T) F σ G H δ) : S (K, []) (besides G H) σ G H (hideOwn δ) := by
  have bs : ∀ b o, besides G H b = some o → G b = none ∧ H b = some o := fun b o e => by
    unfold besides at e
    split at e
    · cases e
    · rename_i q; exact ⟨q, e⟩
  have no : ∀ (i : Nat) xs, (hideOwn δ)[i]? ≠ some (.own xs) := fun i xs e => by
    unfold hideOwn at e
    rw [List.getElem?_map] at e
    cases h : δ[i]? with
    | none => rw [h] at e; cases e
    | some y => rw [h] at e; cases y <;> cases e
  refine ⟨s.sub, fun b o e => (bs b o e).2, fun b o e => (bs b o e).1, by unfold hideOwn; rw [List.length_map]; exact s.len, fun i d e => ?_, fun i xs e => absurd e (no i xs), fun i j xs ys _ e => absurd e (no i xs), fun x hx => absurd (show x ∈ ([] : List (Addr × PySem.Str)) from hx) (by simp), fun x hx => absurd (show x ∈ ([] : List (Addr × PySem.Str)) from hx) (by simp), s.ntg, .inl rfl⟩
  unfold hideOwn at e
  rw [List.getElem?_map] at e
  cases h : δ[i]? with
  | none => rw [h] at e; cases e
  | some y =>
    rw [h] at e
    cases y with
    | un => cases e
    | own xs => cases e
    | val d' => cases e; exact s.val i d h
theorem S.extN {K : PySem.W.Frag} {T : List (Addr × PySem.Str)} {F G H H1 : Hp} {σ : L2.St} {δ : De} (s : S (K, T) F σ G H δ) (hT : T ≠ []) (e : LamX.ExtN H H1) (t : LamX.Tabs T H1) : S (K, T) F σ G H1 δ := by
  have nf : ∀ b ps, F b ≠ some (.tbl ps) := fun b ps z => by
    obtain ⟨xs, e⟩ := s.ntf.resolve_left hT b _ z
    cases e
  refine ⟨fun b o q => e b o (s.sub _ _ q) fun ps z => s.ntg b ps (by rw [q, z]), fun b o q => e b o (s.frm _ _ q) fun ps z => nf b ps (by rw [q, z]), s.dis, s.len, s.val, fun i xs q => ?_, s.inj, t, s.tnf, s.ntg, s.ntf⟩
  obtain ⟨p, vs, h1, h2, h3, h4, h5⟩ := s.own i xs q
  exact ⟨p, vs, h1, e _ _ h2 fun ps z => (by cases z), h3, h4, h5⟩
/-- what the clauses make of an exception -/
def Ech (K : PySem.W.Frag) (Q : VK) : List (Addr × Str) → XK
  | [] => fun _ _ _ => False
  | (C, n) :: r => fun cls d H' => ∃ b, PySem.W.exmOne K cls (.ref C) = some b ∧ (b = true → Q (.str n) H') ∧ (b = false → Ech K Q r cls d H')
def TTm (K : PySem.W.Frag) (l : List (Addr × Str)) : (XK → Hp → VK → Prop) → Hp → VK → Prop := fun tl H Q => tl (Ech K Q l) H Q
inductive HdT (mg : Str → Option Value) (sg : Scope) : List ExceptHandler → List (Addr × Str) → Prop
  | nil : HdT mg sg [] []
  | cons {e ret : Str} {C : Addr} {j : Nat} {p4 p5 p6 p7 : Pos} {hds : List ExceptHandler} {l : List (Addr × Str)} (h1 : sg.names.lookup e = some .globalImplicit) (h2 : mg e = some (.ref C)) (h3 : (e == ("__debug__" : Str)) = false) (r : HdT mg sg hds l) :
      HdT mg sg (.ExceptHandler (some (.Name e p4)) none [.Return (some (.Constant (.str ret) j p5)) p6] p7 :: hds) ((C, ret) :: l)
def tsOf (l : List (Addr × Str)) : List (Value × (Addr → Value → Option Addr → TS)) := l.map fun p => (.ref p.1, fun _ _ _ => tRet (tC (.str p.2)))
theorem hds_ok {X : Cx} : ∀ {hds : List ExceptHandler} {l : List (Addr × Str)}, HdT X.mg X.env.scope hds l → HdsOk X hds (tsOf l)
  | _, _, .nil => .nil
  | _, _, .cons h1 h2 h3 r => .cons ⟨h1, h3, .inl h2⟩ (fun a oe cls d pn _ _ => pss_one (ps_ret pe_str)) (hds_ok r)
theorem ech_many {K : PySem.W.Frag} {Wout : WX} {Dn : Ends} {cls : Value} {d : Option Addr} {σ : L2.St} {H : Hp} : ∀ {l : List (Addr × Str)}, Ech K Dn.rt l cls d H → wMany K Wout Dn (tsOf l) cls d σ H
  | [], h => h.elim
  | (C, n) :: r, ⟨b, e1, e2, e3⟩ => ⟨b, e1, fun hb a _ => e2 hb, fun hb => ech_many (e3 hb)⟩
theorem gives_many {X : Cx} {Ng : List Str} {x a q : Str} {sg : Scope} {g : Addr} {cdg : Value} {p1 p2 p3 p8 : Pos} {h₀ : ExceptHandler} {hds : List ExceptHandler} {l : List (Addr × Str)} (hh : HdT X.mg sg (h₀ :: hds) l) (h0 : ∀ f : Addr, (L2.start Ng [V.ref f])[0]? = some (some (V.ref f))) :
    LamX.GivesTo X Ng x sg g cdg [.Try [.Return (some (.Call (.Name a p1) [] [] p2)) p3] (h₀ :: hds) [] [] p8] a q (TTm X.K l) := by
  intro f c' s H Q tl act hc h
  refine ⟨_, pss_one (ps_try_many (X := (cxOf C8.CX0 X.prog X.w X.K X.mg X.base Ng x sg g cdg X.A X.stack s H C8.E0).nox) (l := tsOf l) (Wout := fun _ _ _ _ => False)
      (tb := fun W D σ H => ∃ Ec : XK, (∀ cls d σ' H', Ec cls d H' → W cls d σ' H') ∧ σ[0]? = some (some (.ref f)) ∧ H c' = some (LamX.CodeO c' q) ∧ tl Ec H D.rt)
      rfl rfl L2.takes0 (fun W pn xe tk _ => ?_) (hds_ok hh)), ?_⟩
  · refine ⟨fun pins s' σ H' D I h' => ?_⟩
    obtain ⟨Ec, hW, h1, h2, h3⟩ := h'
    have hp := act W pn xe Ec p1 p2 tk hW
    have hq := pss_one (ps_ret (pos := p3) hp)
    exact hq.run pins s' σ H' D I ⟨h1, h2, h3⟩
  · exact ⟨Ech X.K Q l, fun cls d σ' H' z => ech_many (Dn := { nx := fun _ H' => Q .non H', rt := Q }) z, h0 f, hc, h⟩
/-- the def _law_told, and how its clauses tell the classes apart; nl: the classes' numbers and words -/
structure ToldD (P : Program) (w : World) (K : PySem.W.Frag) (mg : Str → Option Value) (base : Heap) (cl : Nat → Addr) (nl : List (Nat × Str)) : Prop where
  ex : ∃ (g : Addr) (sg : Scope) (Ng : List Str) (pg : Arguments) (dV kV doc pm cdv ct oc : Value) (an od : Option Addr) (osl : Array (Option Value)) (p1 p2 p3 p8 : Pos) (h₀ : ExceptHandler) (hds : List ExceptHandler),
    mg "_law_told" = some (.ref g) ∧ PySem.W.keepIn K (.ref g) = true ∧ K.lookup g = some ⟨oc, od, .func (PySem.W.fnOf "_law_told" "_law_told" pg [.Try [.Return (some (.Call (.Name "what" p1) [] [] p2)) p3] (h₀ :: hds) [] [] p8] sg dV kV doc pm an cdv ct), osl⟩ ∧
      PySem.W.codeIn K cdv "_law_told" = true ∧ L2.Binds K (PySem.W.fnOf "_law_told" "_law_told" pg [.Try [.Return (some (.Call (.Name "what" p1) [] [] p2)) p3] (h₀ :: hds) [] [] p8] sg dV kV doc pm an cdv ct) ["what"] [] ∧
      FnScope Ng ["what"] sg ∧ Ng[0]? = some ("what" : Str) ∧ Vis sg "what" ∧ HdT mg sg (h₀ :: hds) (nl.map fun p => (cl p.1, p.2)) ∧ (∀ f : Addr, (L2.start Ng [V.ref f])[0]? = some (some (V.ref f)))
  exm : ∀ i j, i ∈ nl.map (·.1) → j ∈ nl.map (·.1) → PySem.W.exmOne K (.ref (cl i)) (.ref (cl j)) = some (i == j)
def lamSC (c : SC) (scope : Scope) (k : Nat) (E : XK) : SC := { c with sc := scope, k := k, E := E, st := fun _ => false, T := [], code := .none, qual := "" }
theorem in_lam {c : SC} {X : Cx} {scope : Scope} {k : Nat} {E : XK} (h : In c X) (A : Around) (outer : List Env) (s : Shared) (H : Hp) (f c' : Addr) (hr : Room k (A.deeper (LamX.lamEnv X scope s.heap.objs.size f c'))) : In (lamSC c scope k E) (LamX.lamCx X A outer s H E scope f c') where
  P := h.P
  w := h.w
  K := h.K
  mg := h.mg
  base := h.base
  N := h.N
  sc := rfl
  calm := rfl
  room := hr
  tk := takes_of rfl rfl rfl rfl
  fn := fun x hx => by cases hx
  po := passes_of rfl
  code := .inl rfl
def toldName (nl : List (Nat × Str)) (k : Nat) : Option Str := (nl.find? fun p => p.1 == k).map (·.2)
def toldM (nl : List (Nat × Str)) (f : M D) : M D := fun δ => match f (hideOwn δ) with
  | none => none
  | some (.ok d _) => some (.ok d δ)
  | some (.ex k) => (toldName nl k).map fun n => .ok (.str n) δ
theorem ech_of {K : PySem.W.Frag} {Q : VK} {cl : Nat → Addr} {k : Nat} {d : Option Addr} {H : Hp} : ∀ {nl : List (Nat × Str)} {n : Str}, toldName nl k = some n → (∀ j ∈ nl.map (·.1), PySem.W.exmOne K (.ref (cl k)) (.ref (cl j)) = some (k == j)) → Q (.str n) H → Ech K Q (nl.map fun p => (cl p.1, p.2)) (.ref (cl k)) d H
  | [], n, e, _, _ => by cases e
  | (j, m) :: r, n, e, hx, q => by
    refine ⟨k == j, hx j (by simp), fun hb => ?_, fun hb => ?_⟩
    · have : k = j := beq_iff_eq.mp hb
      subst this
      unfold toldName at e
      rw [List.find?_cons_of_pos (by simp)] at e
      cases e
      exact q
    · refine ech_of (n := n) ?_ (fun i hi => hx i (by simp only [List.map_cons, List.mem_cons]; exact .inr hi)) q
      unfold toldName at e ⊢
      rw [List.find?_cons_of_neg] at e
      · exact e
      · intro z
        have : j = k := by simpa using z
        rw [this] at hb
        simp at hb
theorem toldName_mem {nl : List (Nat × Str)} {k : Nat} {n : Str} (e : toldName nl k = some n) : k ∈ nl.map (·.1) := by
  unfold toldName at e
  cases h : nl.find? fun p => p.1 == k with
  | none => rw [h] at e; cases e
  | some p =>
    have h1 := List.find?_some h
    have h2 := List.mem_of_find?_eq_some h
    have : p.1 = k := by simpa using h1
    exact List.mem_map.mpr ⟨p, h2, this⟩
/-- where lambdas are made: the maker's code object and its table -/
structure LamD (c : SC) (C P : Addr) : Prop where
  code : c.code = .ref C
  T : c.T = [(P, c.qual ++ "<lambda>")]
  tb : LamX.TabB c.base c.mg C P
theorem fe_told (k : Nat) {C Pt : Addr} {nl : List (Nat × Str)} {params : Arguments} {body : Expr} {scope : Scope} {f : M D} {p lpos pos : Pos} (Td : ToldD c.P c.w c.K c.mg c.base c.cl nl) (L : LamD c C Pt) (hb : ∀ E, FE (lamSC c scope k E) body f)
    (hk : Nat.ble (k + 2) c.k = true := by rfl) (hL : LamX.lamSB c.sc scope = true := by kernel_rfl) (hg : Gb c "_law_told" := by rfl) (hdef : ∀ env : Env, defaultsOf params env = ([], []) := by intro _; rfl)
    (hbind : ∀ (q : Str) (cl : List (Str × Addr)) (pm cv ctv : Value), bindArgs (PySem.W.kla_fn "<lambda>" q params body scope cl pm cv ctv) ⟨[], []⟩ = pure [] := by intros; rfl) :
    FE c (.Call (.Name "_law_told" p) [.Lambda params body scope lpos] [] pos) (toldM nl f) := by
  obtain ⟨g, sg, Ng, pg, dV, kV, doc, pm, cdv, ct, oc, an, od, osl, p1, p2, p3, p8, h₀, hds, q1, q2, q3, q4, q5, q6, q7, q8, q9, q10⟩ := Td.ex
  obtain ⟨t, ht⟩ : ∃ t : XK → TE, ∀ E, (∀ X, In (lamSC c scope k E) X → PE X body (t E)) ∧ Sp2 (lamSC c scope k E).κ c.cl E (Rep c.K) (t E) f := ⟨fun E => Classical.choose (hb E).ex, fun E => Classical.choose_spec (hb E).ex⟩
  refine ⟨LamX.tLam c.T (TTm c.K (nl.map fun p => (c.cl p.1, p.2))) t, fun X h => ?_, fun F σ G H δ r s e Q p => ?_⟩
  · have hT : c.T ≠ [] := by rw [L.T]; simp
    obtain ⟨hc1, hc2⟩ := h.code.resolve_left hT
    have hG : LamX.GivesTo X Ng "_law_told" sg g cdv [.Try [.Return (some (.Call (.Name "what" p1) [] [] p2)) p3] (h₀ :: hds) [] [] p8] "what" (X.env.qual ++ "<lambda>") (TTm X.K (nl.map fun p => (c.cl p.1, p.2))) := gives_many (by rw [h.mg]; exact q9) q10
    rw [h.K] at hG
    exact LamX.pe_lamcall (k := k) (c := C) (P := Pt) (show X.env.scope.names.lookup _ = _ by rw [h.sc]; exact hg) (by rw [h.mg]; exact q1) (by rw [h.K]; exact q2) (by rw [h.K]; exact q3) (by rw [h.K]; exact q4) (by rw [h.K]; exact q5) q6 q7 q8 hG
      (by rw [h.base, h.mg]; exact L.tb) (by rw [hc1]; exact L.code) (by rw [hc2, L.T]; simp) (fun x hx _ => by rw [L.T] at hx; rw [hc2]; simp only [List.mem_singleton] at hx; rw [hx]) (h.room.mono (Nat.le_of_ble_eq_true hk)) (LamX.lamS_by (by rw [h.sc]; exact hL)) (hdef _) hbind
      (fun A outer s H E f c' hr => (ht E).1 _ (in_lam h A outer s H f c' hr))
  · have hT : c.T ≠ [] := by rw [L.T]; simp
    refine ⟨s.tab, fun H1 eN T1 => ?_⟩
    have s1 := s.extN hT eN T1
    have s2 := s1.hide
    unfold toldM at e
    cases hf : f (hideOwn δ) with
    | none => rw [hf] at e; cases e
    | some rr =>
      rw [hf] at e
      have bs : ∀ b o, besides G H1 b = some o → G b = none ∧ H1 b = some o := fun b o e => by
        unfold besides at e
        split at e
        · cases e
        · rename_i q; exact ⟨q, e⟩
      show t (Ech c.K Q (nl.map fun p => (c.cl p.1, p.2))) σ H1 Q
      refine (ht (Ech c.K Q (nl.map fun p => (c.cl p.1, p.2)))).2 _ σ G H1 _ rr s2 hf Q ?_
      cases rr with
      | ok d δ' =>
        cases e
        exact fun G' H' v s' g' rv => p G' H' v (s1.after g' s'.sub s'.frm s'.dis s'.ntg) g' rv
      | ex n =>
        dsimp only at e
        cases hn : toldName nl n with
        | none => rw [hn] at e; cases e
        | some m =>
          rw [hn] at e
          cases e
          intro G' H' g' h' f'
          refine ech_of hn (fun j hj => Td.exm n j (toldName_mem hn) hj) ?_
          exact p G H' _ (s1.after (Same.refl _) (g'.trans h') f' (fun b o q => (bs b o q).1) s1.ntg) (Same.refl _) (.str _)
end
end FL

set_option Elab.async false
set_option linter.all false
set_option maxRecDepth 100000
set_option maxHeartbeats 2000000
/-! FL9: the law's rounds, and the law. -/
namespace FL
open PySem PySem.Spec PyProof.Rows L2
/-- _law_rounds(script, 1): a new list of one new row of three ints -/
def spRounds (K : PySem.W.Frag) : Sp := fun vs H Q _ => ∃ (a : Addr) (ns : List Int), vs = [.ref a, .int 1] ∧ SqL K H a (ns.map V.int) ∧
  ∀ (H' : Hp) (R p : Addr) (x y z : Int), Same H H' → H R = none → H p = none → H' R = some (.lst [.ref p]) → H' p = some (ints3 x y z) → Q (.ref R) H'
theorem SqL.len {K : PySem.W.Frag} {H : Hp} {a : Addr} {xs : List V} (h : SqL K H a xs) : True := trivial
/-- the rounds' def by its last statements -/
theorem ok_rounds {P : Program} {w : World} {K : PySem.W.Frag} {mg : Str → Option Value} {base : Heap} {cl : Nat → Addr} {a : Addr} {fd : FuncData} {st : Stmt} {N : List Str} {k : Nat} {rest : List Stmt} {rf : Fo} {q1 q2 q3 q4 q5 q6 : Pos}
    (F : Fun K "_law_rounds" "_law_rounds" st a fd) (Sc : FnScope N ["script", "most"] (defScope st)) (hN : N = (["script", "most", "cells", "cell"] : List Str)) (hc : Loc (defScope st) "cells")
    (hst : defBody st = .Assign [.Name "cells" q1] (.Subscript (.Name "script" q2) (.Slice none (some (.Name "most" q3)) none q4) q5) q6 :: rest)
    (body : ∀ E : XK, FS ⟨P, w, K, mg, base, N, defScope st, k, cl, E, fun _ => true, [], .none, ""⟩ rest rf)
    (hrf : ∀ ns : List Int, ∃ x y z, rf [.un, .val (.int 1), .val (.lst ((ns.take 1).map D.int)), .un] = some (.rt (.lst [.lst [.int x, .int y, .int z]]))) :
    FnOk P w K mg base (L2.CX P w) (k + 1) a fd ["script", "most"] (spRounds K) := by
  subst hN
  refine F.okX Sc (fun vs H Q E h => ?_) (fun cdv A outer s H vs Q E hr h => ?_)
  · obtain ⟨a, ns, rfl, _⟩ := h
    rfl
  · obtain ⟨t, pt, sp⟩ := (body E).ex
    have hin : In ⟨P, w, K, mg, base, ["script", "most", "cells", "cell"], defScope st, k, cl, E, fun _ => true, [], .none, ""⟩ (cxOf (L2.CX P w) P w K mg base ["script", "most", "cells", "cell"] "_law_rounds" (defScope st) a cdv A outer s H E) := ⟨rfl, rfl, rfl, rfl, rfl, rfl, rfl, rfl, hr, takes_of rfl rfl rfl rfl, fun _ _ => Or.inl rfl, passes_of rfl, Or.inl rfl⟩
    rw [hst]
    have v0 : Vis (defScope st) "script" := (Sc.par "script" (by simp)).elim .inl fun z => .inr (.inl z)
    have v1 : Vis (defScope st) "most" := (Sc.par "most" (by simp)).elim .inl fun z => .inr (.inl z)
    refine ⟨_, pss_cons (ps_set (i := 2) Sc.nd rfl hc (pe_slice sl_list (pe_var (i := 0) rfl v0) po_none (po_some (pe_var (i := 1) rfl v1))) (by rfl) (Or.inl rfl)) (pt _ hin), ?_⟩
    obtain ⟨b, ns, rfl, hs, q⟩ := h
    refine ⟨_, rfl, _, rfl, 1, rfl, b, _, rfl, hs, fun L hL => ?_⟩
    obtain ⟨x, y, z, hxyz⟩ := hrf ns
    have cut : cutV (ns.map V.int) none (some 1) = (ns.take 1).map V.int := by
      unfold cutV
      rw [HT.sIx_none]
      show (List.drop 0 (ns.map V.int)).take (HT.sIx _ _ (some ((1 : Nat) : Int)) - 0) = _
      rw [HT.sIx_nat, List.drop_zero, Nat.sub_zero, List.map_take, List.length_map]
      cases ns <;> simp
    rw [cut]
    -- from here by values
    have s0 : S (K, []) H [some (.ref b), some (.int 1), some (.ref L), none] (upd (fun _ => none) L (.lst ((ns.take 1).map V.int))) (upd H L (.lst ((ns.take 1).map V.int))) [.un, .val (.int 1), .val (.lst ((ns.take 1).map D.int)), .un] := by
      refine ⟨fun c o e => ?_, same_upd hL, fun c o e => ?_, rfl, fun i d e => ?_, fun i xs e => ?_, fun i j xs ys _ e => ?_, fun x hx => absurd (show x ∈ ([] : List (Addr × PySem.Str)) from hx) (by simp), fun x hx => absurd (show x ∈ ([] : List (Addr × PySem.Str)) from hx) (by simp), fun c ps e => ?_, .inl rfl⟩
      · by_cases hb : c = L
        · subst hb; rw [upd_same] at e ⊢; exact e
        · rw [upd_ne hb] at e; cases e
      · rw [upd_ne (ne_of_none e hL)]
      · match i, e with
        | 0, e => cases e
        | 1, e => cases e; exact ⟨_, rfl, .int 1⟩
        | 2, e => cases e; exact ⟨_, rfl, .lst upd_same (RepL.ints _)⟩
        | 3, e => cases e
        | n + 4, e => simp at e
      · match i, e with
        | 0, e => cases e
        | 1, e => cases e
        | 2, e => cases e
        | 3, e => cases e
        | n + 4, e => simp at e
      · match i, e with
        | 0, e => cases e
        | 1, e => cases e
        | 2, e => cases e
        | 3, e => cases e
        | n + 4, e => simp at e
      · by_cases hb : c = L
        · subst hb; rw [upd_same] at e; cases e
        · rw [upd_ne hb] at e; cases e
    refine sp H _ _ _ _ _ s0 hxyz _ fun σ' G' H' δ' v s' g' rv => ?_
    cases rv with
    | lst h1 h2 =>
      rename_i R xs
      cases h2 with
      | cons ha hb =>
        cases hb
        cases ha with
        | lst h3 h4 =>
          rename_i p ws
          have ew : ws = [V.int x, V.int y, V.int z] := RepL.ints' (ns := [x, y, z]) h4
          subst ew
          have fr : ∀ c o, G' c = some o → H c = none := fun c o e => by
            cases hh : H c with
            | none => rfl
            | some o' => have := s'.dis _ _ hh; rw [e] at this; cases this
          exact q H' R p x y z (fun c o e => s'.frm _ _ e) (fr _ _ h1) (fr _ _ h3) (s'.sub _ _ h1) (s'.sub _ _ h3)
/-- the law's promise -/
def spLaw (K : PySem.W.Frag) (T : List (Addr × Str)) : Sp := fun vs H Q _ => ∃ (a : Addr) (ns : List Int), vs = [.ref a] ∧ SqL K H a (ns.map V.int) ∧ (∀ p ∈ T, H p.1 = some (.tbl #[])) ∧ ∀ H', Q (.bl true) H'
def lawD (n i : Nat) (x y z : Int) : De := (List.replicate n Sl.un).set i (.own [.int x, .int y, .int z])
theorem law_ok {P : Program} {w : World} {K : PySem.W.Frag} {mg : Str → Option Value} {base : Heap} {cl : Nat → Addr} {fa fr : Addr} {fdr : FuncData} {params : Arguments} {sc : Scope} {dV kV doc pm cdv ct oc : Value} {an od : Option Addr} {osl : Array (Option Value)} {N : List Str} {k i : Nat} {T : List (Addr × Str)}
    {body rest : List Stmt} {bf rf : Fo} {p1 p2 p3 p4 p5 p6 : Pos} {jj : Nat}
    (lk : K.lookup fa = some ⟨oc, od, .func (PySem.W.fnOf "law" "law" params (.For (.Name "dice" p1) (.Call (.Name "_law_rounds" p2) [.Name "script" p3, .Constant (.int 1) jj p4] [] p5) body [] p6 :: rest) sc dV kV doc pm an cdv ct), osl⟩) (hcd : PySem.W.codeIn K cdv "law" = true)
    (Sc : FnScope N ["script"] sc) (hd : N[i]? = some ("dice" : Str)) (hd0 : i ≠ 0) (hdl : Loc sc "dice") (hv0 : N[0]? = some ("script" : Str))
    (hm : mg "_law_rounds" = some (.ref fr)) (hkp : PySem.W.keepIn K (.ref fr) = true) (hbr : Binds K fdr ["script", "most"] []) (hR : FnOk P w K mg base (L2.CX P w) k fr fdr ["script", "most"] (spRounds K)) (hgr : sc.names.lookup ("_law_rounds" : Str) = some .globalImplicit)
    (hb : ∀ E : XK, FS ⟨P, w, K, mg, base, N, sc, k, cl, E, fun _ => true, T, cdv, ("law" : Str) ++ (".<locals>." : Str)⟩ body bf) (hr : ∀ E : XK, FS ⟨P, w, K, mg, base, N, sc, k, cl, E, fun _ => true, T, cdv, ("law" : Str) ++ (".<locals>." : Str)⟩ rest rf)
    (fin : ∀ x y z : Int, ∃ δ', bf (lawD N.length i x y z) = some (.nx δ') ∧ rf δ' = some (.rt (.bl true))) :
    FnOk P w K mg base (L2.CX P w) (k + 1) fa (PySem.W.fnOf "law" "law" params (.For (.Name "dice" p1) (.Call (.Name "_law_rounds" p2) [.Name "script" p3, .Constant (.int 1) jj p4] [] p5) body [] p6 :: rest) sc dV kV doc pm an cdv ct) ["script"] (spLaw K T) := by
  refine fn_of lk hcd Sc (fun vs H Q E h => ?_) fun A outer s H vs Q E hrm h => ?_
  · obtain ⟨a, ns, rfl, _⟩ := h
    rfl
  · obtain ⟨tb, pb, sb⟩ := (hb E).ex
    obtain ⟨tr, pr, sr⟩ := (hr E).ex
    have hin : In ⟨P, w, K, mg, base, N, sc, k, cl, E, fun _ => true, T, cdv, ("law" : Str) ++ (".<locals>." : Str)⟩ (cxOf (L2.CX P w) P w K mg base N "law" sc fa cdv A outer s H E) := ⟨rfl, rfl, rfl, rfl, rfl, rfl, rfl, rfl, hrm, takes_of rfl rfl rfl rfl, fun _ _ => Or.inl rfl, passes_of rfl, Or.inr ⟨rfl, rfl⟩⟩
    have v0 : Vis sc "script" := (Sc.par "script" (by simp)).elim .inl fun z => .inr (.inl z)
    refine ⟨_, pss_cons (ps_for (passes_of rfl) rfl (pi_list (pe_callS hR hrm hgr hm hkp hbr (fun σ => passAt (W := fun cls d _ H => E cls d H) (takes_of rfl rfl rfl rfl) σ) (pa_cons (pe_var (i := 0) hv0 v0) (pa_cons pe_int pa_nil)))) (pg_name (i := i) Sc.nd hd hdl (Or.inl rfl)) (pb _ hin)) (pr _ hin), ?_⟩
    obtain ⟨a, ns, rfl, hs, hT, q⟩ := h
    have hN0 : 0 < N.length := by
      obtain ⟨z, _⟩ := List.getElem?_eq_some_iff.mp hv0
      exact z
    have st0 : (L2.start N [V.ref a])[0]? = some (some (V.ref a)) := rfl
    have stl : (L2.start N [V.ref a]).length = N.length := start_len (by show 1 ≤ N.length; exact hN0)
    refine ⟨_, st0, a, ns, rfl, hs, fun H1 R p x y z sm nR np hR1 hp1 => ?_⟩
    have nRp : R ≠ p := ne_of hR1 hp1 (by intro e; cases e)
    refine ⟨R, rfl, ⟨_, .inl (.inl hR1)⟩, ?_⟩
    obtain ⟨δ', hbf, hrf⟩ := fin x y z
    have s0 : S (K, T) (upd (fun _ => none) R (.lst [.ref p])) ((L2.start N [V.ref a]).set i (some (.ref p))) (fun _ => none) H1 (lawD N.length i x y z) := by
      have hil : i < N.length := by
        obtain ⟨z, _⟩ := List.getElem?_eq_some_iff.mp hd
        exact z
      have getd : ∀ (j : Nat) sl, (lawD N.length i x y z)[j]? = some sl → (j = i ∧ sl = .own [.int x, .int y, .int z]) ∨ sl = .un := fun j sl e => by
        unfold lawD at e
        rcases get_set e with ⟨h1, _, h2⟩ | ⟨_, h2⟩
        · exact .inl ⟨h1.symm, h2⟩
        · rw [List.getElem?_replicate] at h2
          split at h2
          · cases h2; exact .inr rfl
          · cases h2
      refine ⟨(fun c o e => nomatch e), fun c o e => ?_, fun c o e => rfl, by unfold lawD; simp [stl], fun j d e => ?_, fun j xs e => ?_, fun j l xs ys hn e1 e2 => ?_, fun t ht => ⟨#[], sm _ _ (hT t ht), True.intro, fun pos cv hc => ?_⟩, fun t ht => ⟨?_, rfl⟩, (fun c ps e => nomatch e), .inr fun c ps e => ?_⟩
      · by_cases hb : c = R
        · subst hb; rw [upd_same] at e; rw [← e]; exact hR1
        · rw [upd_ne hb] at e; cases e
      · rcases getd j _ e with ⟨_, z⟩ | z <;> cases z
      · rcases getd j _ e with ⟨hj, z⟩ | z
        · cases z
          subst hj
          refine ⟨p, [.int x, .int y, .int z], ?_, hp1, RepL.ints [x, y, z], rfl, by rw [upd_ne (Ne.symm nRp)]⟩
          rw [List.getElem?_set_self (by rw [stl]; exact hil)]
        · cases z
      · rcases getd j _ e1 with ⟨hj, _⟩ | z
        · rcases getd l _ e2 with ⟨hl, _⟩ | z
          · exact absurd (hj.trans hl.symm) hn
          · cases z
        · cases z
      · simp [codeAmong] at hc
      · rw [upd_ne]
        intro e
        have := hT t ht
        rw [e, nR] at this
        cases this
      · by_cases hb : c = R
        · subst hb; rw [upd_same] at e; exact ⟨_, (Option.some.inj e).symm⟩
        · rw [upd_ne hb] at e; cases e
    refine for_list (K := K) (a := R) (xs := [.ref p]) (fun n σ' H' => (n = 0 ∧ σ' = L2.start N [V.ref a] ∧ H' = H1) ∨ (n = 1 ∧ SqL K H' R [.ref p] ∧ ∃ G', S (K, T) (upd (fun _ => none) R (.lst [.ref p])) σ' G' H' δ')) (.inl ⟨rfl, rfl, rfl⟩) (fun n σ' H' _ hp => ?_) (fun n v σ' H' hv hp => ?_) (fun σ' H' hp => ?_)
    · rcases hp with ⟨_, rfl, rfl⟩ | ⟨_, h, _⟩
      · exact .inl (.inl hR1)
      · exact h
    · rcases hp with ⟨rfl, rfl, rfl⟩ | ⟨rfl, _⟩
      · cases hv
        refine sb _ _ _ _ _ _ s0 hbf _ fun σ' G' H' s' g' => ?_
        exact .inr ⟨rfl, .inl (.inl (s'.frm R _ upd_same)), G', s'⟩
      · cases hv
    · rcases hp with ⟨h0, _⟩ | ⟨_, _, G', s'⟩
      · cases h0
      · refine sr _ _ _ _ _ _ s' hrf _ fun σ2 G2 H2 δ2 v s2 g2 rv => ?_
        cases rv
        exact q H2
theorem sw_false {elt : Expr} {gs : List Comprehension} {scope : Scope} {pos py : Pos} {y : Str} {l : Nat} {env : Env} (h : env.scope.names.lookup y = some .cell) : swapsWith (.ListComp elt gs scope pos) (some (.Name y py)) l env = pure false := by
  have hk : env.kindOf y = some .cell := h
  show pure (env.blockKind == .function && env.kindOf y == some .local && _ && _) = pure false
  rw [hk]
  have e : (some NameKind.cell == some NameKind.local) = false := by decide
  rw [e]
  simp only [Bool.and_false, Bool.false_and]
def forBody : List Stmt → List Stmt
  | .For _ _ b _ _ :: _ => b
  | _ => []
end FL

set_option Elab.async false
set_option linter.all false
set_option maxRecDepth 100000
set_option maxHeartbeats 2000000
/-! FL10: the end of a law's row. -/
namespace FL
open PySem PySem.Spec PyProof.Rows L2
theorem walk_law {l : PySem.W.OpenLaw} {n k : Nat} {q : Program} {loose : List Str} {XP : (Str → Option Value) → Heap → Prop} {YP : World → Heap → Prop} {d : DefRec} {K : Params → PySem.W.Frag} {x : Str} {C Pt : Addr}
    (hn : l.most = some n) (hn2 : n ≤ sizeLine) (hdf : d.params.defaults = []) (hr : Room k callerA) (hY : ∀ (w : World) (h : Heap), YP w h → (K w.params).In h)
    (hT : ∀ (w : World) (h : Heap), YP w h → h.get? Pt = some { cls := .none, data := .fields #[] }) (hc : ∀ w : World, PySem.W.codeHdIn (K w.params) C Pt = true) (hK : ∀ w : World, (K w.params).lookup Pt = none)
    (F : ∀ (w : World) (mg : Str → Option Value) (fa : Addr) (h : Heap), (K w.params).In h → h.Ns mainGlobals mg → mg d.name = some (.ref fa) →
      ∃ fd : FuncData, (∀ (s : Shared) (u : Value), BindsTo s fd ⟨[u], []⟩ [(x, u)]) ∧ ∀ base : Heap, (K w.params).In base → base.Ns mainGlobals mg → LamX.TabB base mg C Pt → FnOk l.prog w (K w.params) mg base (L2.CX l.prog w) k fa fd [x] (spLaw (K w.params) [(Pt, (("law" : Str) ++ (".<locals>." : Str)) ++ "<lambda>")])) :
    PySem.W.WalkO q loose XP YP l.row.toRowW d [] (fun f vs => PySem.call f vs) := by
  refine Att.attach_callB hn hdf fun w s₀ s₁ mg mb fa o pm cd doc a vs ns G Y ho hd hcd hmg hobj hints hlen hbits hg => ?_
  have KX := hY w _ Y
  have hT := hT w _ Y
  have hC := PySem.W.codeHd_of_K KX (hc w)
  obtain ⟨fd, hb, hF⟩ := F w mg fa _ KX G.T.g hmg
  refine LamX.law_callTs (cs := [(C, Pt)]) (sp := spLaw (K w.params) [(Pt, (("law" : Str) ++ (".<locals>." : Str)) ++ "<lambda>")]) KX G.T.g G.T.b G.T.builtins G.T.nolimit hg (fun p hp => ?_) (fun p hp => ?_) (fun p hp => ?_) G.T.bmain hobj hints (Nat.le_trans hlen hn2) hr (fun base h1 h2 h3 => hF base h1 h2 (h3 (C, Pt) (by simp))) hb (fun H hH hS => ?_) fun H e s' hx => ?_
  · simp only [List.mem_singleton] at hp; subst hp; exact hT
  · simp only [List.mem_singleton] at hp; subst hp; exact hK w
  · simp only [List.mem_singleton] at hp; subst hp; exact hC
  · refine ⟨a, ns, rfl, hS, fun p hp => ?_, fun H' => rfl⟩
    simp only [List.mem_singleton] at hp; subst hp
    exact hH (C, Pt) (by simp)
  · obtain ⟨_, _, _, _, _, _, _, _, _, _, _, _, z⟩ := hx
    exact z
theorem const_tup {K : PySem.W.Frag} {h : Heap} {mg : Str → Option Value} {x : Str} {a : Addr} {xs : List V} {ds : List D} {od : Option Addr} {its : Array Value} {n : Nat} {sl : Array (Option Value)} (X : K.In h) (G : h.Ns mainGlobals mg) (ha : PySem.W.nsIn K mainGlobals x = some (some (.ref a))) (hl : K.lookup a = some ⟨.type "tuple", od, .seq its n, sl⟩) (hs : its.size ≤ sizeLine) (hv : Vals xs its.toList) (hd : ∀ G, RepL K G xs ds) : Const K mg x (.tup ds) :=
  ⟨.ref a, .ref a, PySem.W.mg_of X G ha, rfl, fun G => .tup (.inr ⟨_, its, n, hl, rfl, rfl, hs, hv⟩) (hd G)⟩
theorem const_val {K : PySem.W.Frag} {h : Heap} {mg : Str → Option Value} {x : Str} {u : Value} {v : V} {d : D} (X : K.In h) (G : h.Ns mainGlobals mg) (ha : PySem.W.nsIn K mainGlobals x = some (some u)) (r : RelV v u) (hd : ∀ G, Rep K G v d) : Const K mg x d := ⟨v, u, PySem.W.mg_of X G ha, r, hd⟩
def exmAll (K : PySem.W.Frag) (cl : Nat → Addr) (nl : List Nat) : Bool := nl.all fun i => nl.all fun j => decide (PySem.W.exmOne K (.ref (cl i)) (.ref (cl j)) = some (i == j))
theorem exm_all {K : PySem.W.Frag} {cl : Nat → Addr} {nl : List Nat} (h : exmAll K cl nl = true) : ∀ i j, i ∈ nl → j ∈ nl → PySem.W.exmOne K (.ref (cl i)) (.ref (cl j)) = some (i == j) := fun i j hi hj => of_decide_eq_true (List.all_eq_true.mp (List.all_eq_true.mp h i hi) j hj)
end FL

set_option Elab.async false
set_option linter.all false
set_option maxRecDepth 100000
set_option maxHeartbeats 2000000
/-! FL11: what bodies come to, by values. -/
namespace FL
open PySem PySem.Spec PyProof.Rows L2
theorem eqB_int (a b : Int) : eqB (.int a) (.int b) = some (a == b) := rfl
theorem eqB_bl (a b : Bool) : eqB (.bl a) (.bl b) = some (a == b) := rfl
theorem eqB_str {a b : Str} (ha : PyData.strOk a = true) (hb : PyData.strOk b = true) : eqB (.str a) (.str b) = some (a == b) := by
  have e : ∀ {x : Str}, PyData.strOk x = true → SeqAt.shaped (.str x) = true := fun {x} h => by
    unfold SeqAt.shaped PyData.canLay0
    rw [h]; rfl
  unfold eqB toPy
  dsimp only
  rw [e ha, e hb]
  rfl
theorem eqD_int (a b : Int) : eqD (.int a) (.int b) = some (.bl (a == b)) := rfl
theorem neD_int (a b : Int) : neD (.int a) (.int b) = some (.bl (!(a == b))) := rfl
theorem eqD_bl (a b : Bool) : eqD (.bl a) (.bl b) = some (.bl (a == b)) := rfl
theorem neD_bl (a b : Bool) : neD (.bl a) (.bl b) = some (.bl (!(a == b))) := rfl
theorem eqD_int_non (a : Int) : eqD (.int a) .non = some (.bl false) := rfl
theorem toPyL_ints : ∀ xs : List Int, toPyL (xs.map D.int) = some (xs.map PyData.int)
  | [] => rfl
  | x :: xs => by rw [List.map_cons, toPyL, toPyL_ints xs]; rfl
theorem canLay_ints : ∀ xs : List Int, PyData.canLayAll0 (xs.map PyData.int) = true
  | [] => rfl
  | x :: xs => by rw [List.map_cons, PyData.canLayAll0, canLay_ints xs]; rfl
theorem eqv_ints : ∀ xs ys : List Int, PyData.eqvAll (xs.map PyData.int) (ys.map PyData.int) = decide (xs = ys)
  | [], [] => rfl
  | [], y :: ys => rfl
  | x :: xs, [] => rfl
  | x :: xs, y :: ys => by
    rw [List.map_cons, List.map_cons, PyData.eqvAll, eqv_ints xs ys]
    show (x == y && decide (xs = ys)) = decide (x :: xs = y :: ys)
    by_cases h : x = y
    · subst h; simp
    · simp [h]
theorem eqB_ints (xs ys : List Int) : eqB (.lst (xs.map .int)) (.lst (ys.map .int)) = some (decide (xs = ys)) := by
  have sh : ∀ xs : List Int, SeqAt.shaped (.list (xs.map .int)) = true := fun xs => by
    unfold SeqAt.shaped PyData.canLay0 PyData.depth
    rw [canLay_ints, PySem.W.depth_ints]; rfl
  unfold eqB toPy
  rw [toPyL_ints, toPyL_ints]
  simp only [Option.map_some]
  rw [sh, sh]
  show some (PyData.eqvAll _ _) = _
  rw [eqv_ints]
theorem eqB_tups (xs ys : List Int) : eqB (.tup (xs.map .int)) (.tup (ys.map .int)) = some (decide (xs = ys)) := by
  have sh : ∀ xs : List Int, SeqAt.shaped (.tuple (xs.map .int)) = true := fun xs => by
    unfold SeqAt.shaped PyData.canLay0 PyData.depth
    rw [canLay_ints, PySem.W.depth_ints]; rfl
  unfold eqB toPy
  rw [toPyL_ints, toPyL_ints]
  simp only [Option.map_some]
  rw [sh, sh]
  show some (PyData.eqvAll _ _) = _
  rw [eqv_ints]
theorem restD_id {δ δ3 : De} {vs : List Nat} (h1 : δ3.length = δ.length) (h2 : ∀ j, j ∉ vs → δ3[j]? = δ[j]?) : restD δ δ3 vs = δ := by
  apply List.ext_getElem?
  intro j
  rw [restD_get]
  by_cases hj : j ∈ vs
  · rw [if_pos hj]
    by_cases hl : j < δ.length
    · rw [List.getElem?_eq_getElem (show j < δ3.length by omega), List.getElem?_eq_getElem hl]
      rfl
    · rw [List.getElem?_eq_none_iff.mpr (by omega), List.getElem?_eq_none_iff.mpr (by omega)]
      rfl
  · rw [if_neg hj, h2 j hj]
/-- a comprehension whose element is read off the item -/
theorem lcD_map {vs : List Nat} {bd : D → De → Option De} {fe : M D} {g : D → D} {δ : De} (hno : noOwn δ vs = true) : ∀ (ds : List D), (∀ d ∈ ds, ∃ δ1, bd d (wipeD δ vs) = some δ1 ∧ δ1.length = δ.length ∧ (∀ j, j ∉ vs → δ1[j]? = δ[j]?) ∧ fe δ1 = some (.ok (g d) δ1)) →
    lcD vs bd (pureM true) fe ds δ = some (.ok (ds.map g) δ)
  | [], _ => rfl
  | d :: ds, h => by
    obtain ⟨δ1, h1, h2, h3, h4⟩ := h d (by simp)
    rw [lcD, if_pos hno, h1]
    dsimp only [pureM]
    rw [h4]
    dsimp only
    rw [restD_id h2 h3, lcD_map hno ds fun x hx => h x (by simp [hx])]
    rfl
theorem lcD_filter {vs : List Nat} {bd : D → De → Option De} {tt : M Bool} {fe : M D} {p : D → Bool} {g : D → D} {δ : De} (hno : noOwn δ vs = true) : ∀ (ds : List D), (∀ d ∈ ds, ∃ δ1, bd d (wipeD δ vs) = some δ1 ∧ δ1.length = δ.length ∧ (∀ j, j ∉ vs → δ1[j]? = δ[j]?) ∧ tt δ1 = some (.ok (p d) δ1) ∧ (p d = true → fe δ1 = some (.ok (g d) δ1))) →
    lcD vs bd tt fe ds δ = some (.ok ((ds.filter p).map g) δ)
  | [], _ => rfl
  | d :: ds, h => by
    obtain ⟨δ1, h1, h2, h3, h4, h5⟩ := h d (by simp)
    have ih := lcD_filter hno ds fun x hx => h x (by simp [hx])
    rw [lcD, if_pos hno, h1]
    dsimp only
    rw [h4]
    cases hp : p d with
    | false =>
      dsimp only
      rw [restD_id h2 h3, ih, List.filter_cons_of_neg (by simp [hp])]
    | true =>
      dsimp only
      rw [h5 hp]
      dsimp only
      rw [restD_id h2 h3, ih, List.filter_cons_of_pos hp]
      rfl
/-- what a name binds in a comprehension -/
theorem bind1 {v : Nat} {d : D} {δ : De} : ∃ δ1, bName v d (wipeD δ [v]) = some δ1 ∧ δ1 = δ.set v (.val d) ∧ δ1.length = δ.length ∧ ∀ j, j ∉ [v] → δ1[j]? = δ[j]? := by
  refine ⟨δ.set v (.val d), ?_, rfl, by simp, fun j hj => ?_⟩
  · show some (((δ.set v .un)).set v (.val d)) = _
    rw [List.set_set]
  · rw [List.getElem?_set_ne]
    simpa using Ne.symm (by simpa using hj)
theorem bind2 {u v : Nat} {x y : D} {δ : De} (huv : u ≠ v) : ∃ δ1, bTup (bCons (bName u) (bCons (bName v) bNil)) (.tup [x, y]) (wipeD δ [u, v]) = some δ1 ∧ δ1 = (δ.set u (.val x)).set v (.val y) ∧ δ1.length = δ.length ∧ ∀ j, j ∉ [u, v] → δ1[j]? = δ[j]? := by
  refine ⟨(δ.set u (.val x)).set v (.val y), ?_, rfl, by simp, fun j hj => ?_⟩
  · show some ((((δ.set v .un).set u .un).set u (.val x)).set v (.val y)) = _
    rw [List.set_set, List.set_comm _ _ (Ne.symm huv), List.set_set]
  · simp only [List.mem_cons, List.not_mem_nil, or_false, not_or] at hj
    rw [List.getElem?_set_ne (Ne.symm hj.2), List.getElem?_set_ne (Ne.symm hj.1)]
/-- [c + _law_roll(dice, m) for k in ..] -/
theorem rolls {i v : Nat} {c m : Int} (hm : 0 < m ∧ m < 1073741824) (hiv : i ≠ v) : ∀ (ds : List D) (δ : De) (x y z : Int), ownAt δ i = some [.int x, .int y, .int z] → ownAt δ v = none →
    ∃ (rs : List Int) (x' y' z' : Int), rs.length = ds.length ∧ (∀ r ∈ rs, c ≤ r ∧ r < c + m) ∧ lcD [v] (bName v) (pureM true) (bin2 addD (pureM (.int c)) (rollM i (pureM (.int m)))) ds δ = some (.ok (rs.map .int) (δ.set i (.own [.int x', .int y', .int z'])))
  | [], δ, x, y, z, h, _ => by
    have e := ownAt_some h
    have hl : i < δ.length := (List.getElem?_eq_some_iff.mp e).1
    refine ⟨[], x, y, z, rfl, by simp, ?_⟩
    rw [lcD]
    congr 2
    apply List.ext_getElem?
    intro j
    by_cases hj : i = j
    · subst hj; rw [List.getElem?_set_self hl, e]
    · rw [List.getElem?_set_ne hj]
  | d :: ds, δ, x, y, z, h, hv => by
    have e := ownAt_some h
    have hl : i < δ.length := (List.getElem?_eq_some_iff.mp e).1
    have r0 := rollF_lo x y z m hm.1
    have r1 := rollF_hi x y z m hm.1
    generalize hr : rollF x y z m = rr at r0 r1
    obtain ⟨r, x1, y1, z1⟩ := rr
    have own1 : ownAt (δ.set i (.own [.int x1, .int y1, .int z1])) i = some [.int x1, .int y1, .int z1] := by
      unfold ownAt; rw [List.getElem?_set_self hl]
    have ownv : ownAt (δ.set i (.own [.int x1, .int y1, .int z1])) v = none := by
      unfold ownAt at hv ⊢; rw [List.getElem?_set_ne hiv]; exact hv
    obtain ⟨rs, x', y', z', h1, h2, h3⟩ := rolls hm hiv ds (δ.set i (.own [.int x1, .int y1, .int z1])) x1 y1 z1 own1 ownv
    refine ⟨(c + r) :: rs, x', y', z', by simp [h1], fun q hq => ?_, ?_⟩
    · rcases List.mem_cons.mp hq with rfl | hq
      · dsimp only at r0 r1; omega
      · exact h2 q hq
    · have no : noOwn δ [v] = true := by unfold noOwn; simp [hv]
      have st : ∀ δ : De, bName v d (wipeD δ [v]) = some (δ.set v (.val d)) := fun δ => by
        show some ((δ.set v .un).set v (.val d)) = _
        rw [List.set_set]
      rw [lcD, if_pos no, st]
      dsimp only [pureM]
      have ow : ownAt (δ.set v (.val d)) i = some [.int x, .int y, .int z] := by
        unfold ownAt; rw [List.getElem?_set_ne (Ne.symm hiv), e]
      have ev : bin2 addD (pureM (.int c)) (rollM i (pureM (.int m))) (δ.set v (.val d)) = some (.ok (.int (c + r)) ((δ.set v (.val d)).set i (.own [.int x1, .int y1, .int z1]))) := by
        unfold bin2 bindM rollM pureM
        dsimp only
        rw [ow]
        unfold bindM rollK
        dsimp only
        rw [ow]
        dsimp only
        rw [if_pos hm, hr]
        rfl
      rw [ev]
      dsimp only
      have er : restD δ ((δ.set v (.val d)).set i (.own [.int x1, .int y1, .int z1])) [v] = δ.set i (.own [.int x1, .int y1, .int z1]) := by
        apply List.ext_getElem?
        intro j
        rw [restD_get]
        by_cases hj : j = v
        · subst hj
          rw [if_pos (by simp), List.getElem?_set_ne hiv, List.getElem?_set_ne hiv, List.getElem?_set]
          by_cases hl : j < δ.length
          · simp [hl]
          · simp [hl]
        · rw [if_neg (by simpa using hj)]
          by_cases hi : i = j
          · subst hi
            rw [List.getElem?_set_self (by simpa using hl), List.getElem?_set_self hl]
          · rw [List.getElem?_set_ne hi, List.getElem?_set_ne hi, List.getElem?_set_ne (Ne.symm hj)]
      rw [er, h3]
      dsimp only
      rw [List.set_set]
      rfl
theorem seqS_nx {f g : Fo} {δ δ' : De} (h : f δ = some (.nx δ')) : seqS f g δ = g δ' := by unfold seqS; rw [h]
theorem thenS_ok {α : Type} {m : M α} {k : α → Fo} {δ δ' : De} {a : α} (h : m δ = some (.ok a δ')) : thenS m k δ = k a δ' := by unfold thenS; rw [h]
theorem own_at {δ : De} {i : Nat} {xs : List D} (h : δ[i]? = some (.own xs)) : ownAt δ i = some xs := by unfold ownAt; rw [h]
theorem roll1 {i : Nat} {m x y z : Int} {δ : De} (hm : 0 < m ∧ m < 1073741824) (h : ownAt δ i = some [.int x, .int y, .int z]) :
    ∃ r x' y' z' : Int, 0 ≤ r ∧ r < m ∧ rollM i (pureM (.int m)) δ = some (.ok (.int r) (δ.set i (.own [.int x', .int y', .int z']))) := by
  refine ⟨(rollF x y z m).1, (rollF x y z m).2.1, (rollF x y z m).2.2.1, (rollF x y z m).2.2.2, rollF_lo x y z m hm.1, rollF_hi x y z m hm.1, ?_⟩
  unfold rollM
  rw [h]
  dsimp only [FL.bindM, pureM]
  unfold rollK
  rw [h]
  dsimp only
  rw [if_pos hm]
theorem lcM_rolls {i v : Nat} {c m x y z : Int} {items : M (List D)} {δ δ1 : De} {ds : List D} (hm : 0 < m ∧ m < 1073741824) (hiv : i ≠ v) (hi : items δ = some (.ok ds δ1)) (hl : ds.length < 1000000) (h : ownAt δ1 i = some [.int x, .int y, .int z]) (hv : ownAt δ1 v = none) :
    ∃ (rs : List Int) (x' y' z' : Int), rs.length = ds.length ∧ (∀ r ∈ rs, c ≤ r ∧ r < c + m) ∧ lcM [v] (bName v) (pureM true) (bin2 addD (pureM (.int c)) (rollM i (pureM (.int m)))) items δ = some (.ok (.lst (rs.map .int)) (δ1.set i (.own [.int x', .int y', .int z']))) := by
  obtain ⟨rs, x', y', z', h1, h2, h3⟩ := rolls (c := c) hm hiv ds δ1 x y z h hv
  refine ⟨rs, x', y', z', h1, h2, ?_⟩
  unfold lcM
  rw [bindM_ok hi, if_pos hl, bindM_ok h3]
  rfl
theorem lcM_map {vs : List Nat} {bd : D → De → Option De} {fe : M D} {g : D → D} {items : M (List D)} {δ δ1 : De} {ds : List D} (hi : items δ = some (.ok ds δ1)) (hl : ds.length < 1000000) (hno : noOwn δ1 vs = true)
    (h : ∀ d ∈ ds, ∃ δ2, bd d (wipeD δ1 vs) = some δ2 ∧ δ2.length = δ1.length ∧ (∀ j, j ∉ vs → δ2[j]? = δ1[j]?) ∧ fe δ2 = some (.ok (g d) δ2)) : lcM vs bd (pureM true) fe items δ = some (.ok (.lst (ds.map g)) δ1) := by
  unfold lcM
  rw [bindM_ok hi, if_pos hl, bindM_ok (lcD_map hno ds h)]
  rfl
theorem lcM_filter {vs : List Nat} {bd : D → De → Option De} {tt : M Bool} {fe : M D} {p : D → Bool} {g : D → D} {items : M (List D)} {δ δ1 : De} {ds : List D} (hi : items δ = some (.ok ds δ1)) (hl : ds.length < 1000000) (hno : noOwn δ1 vs = true)
    (h : ∀ d ∈ ds, ∃ δ2, bd d (wipeD δ1 vs) = some δ2 ∧ δ2.length = δ1.length ∧ (∀ j, j ∉ vs → δ2[j]? = δ1[j]?) ∧ tt δ2 = some (.ok (p d) δ2) ∧ (p d = true → fe δ2 = some (.ok (g d) δ2))) : lcM vs bd tt fe items δ = some (.ok (.lst ((ds.filter p).map g)) δ1) := by
  unfold lcM
  rw [bindM_ok hi, if_pos hl, bindM_ok (lcD_filter hno ds h)]
  rfl
theorem cut_tail {α : Type} (xs : List α) : cutL xs (some 1) none = xs.tail := by
  unfold cutL
  rw [show HT.sIx xs.length 0 (some 1) = min 1 xs.length from HT.sIx_nat xs.length 0 1, HT.sIx_none]
  cases xs with
  | nil => rfl
  | cons x r =>
    rw [show min 1 (x :: r).length = 1 by simp]
    simp
theorem zipL_ints : ∀ (xs ys : List Int), zipL (xs.map .int) (ys.map .int) = (xs.zip ys).map fun p => .tup [.int p.1, .int p.2]
  | [], ys => by simp [zipL]
  | x :: xs, [] => by simp [zipL]
  | x :: xs, y :: ys => by simp [zipL, zipL_ints xs ys]
end FL

set_option Elab.async false
set_option linter.all false
set_option maxRecDepth 100000
set_option maxHeartbeats 2000000
/-! FL12: going on through a body, statement by statement. -/
namespace FL
open PySem PySem.Spec PyProof.Rows L2
def Nx (f : Fo) (δ : De) : Prop := ∃ δ', f δ = some (.nx δ')
theorem nx_seq {f g : Fo} {δ : De} (δ' : De) (h : f δ = some (.nx δ')) (k : Nx g δ') : Nx (seqS f g) δ := by
  obtain ⟨x, hx⟩ := k
  exact ⟨x, by rw [seqS_nx h]; exact hx⟩
theorem rt_seq {f g : Fo} {δ δ' : De} {o : Option Out} (h : f δ = some (.nx δ')) (k : g δ' = o) : seqS f g δ = o := by rw [seqS_nx h]; exact k
theorem if_no {m : M Bool} {f : Fo} {δ : De} (h : m δ = some (.ok false δ)) : thenS m (fun k => if k then f else nxS) δ = some (.nx δ) := by rw [thenS_ok h]; rfl
theorem not_no {m : M Bool} {δ : De} (h : m δ = some (.ok true δ)) : bindM m (fun k => pureM (!k)) δ = some (.ok false δ) := by rw [bindM_ok h]; rfl
theorem or_no {f g : M Bool} {δ : De} (h1 : f δ = some (.ok false δ)) (h2 : g δ = some (.ok false δ)) : orT f g δ = some (.ok false δ) := by
  unfold orT; rw [bindM_ok h1]; exact h2
theorem and_no1 {f g : M Bool} {δ : De} (h1 : f δ = some (.ok false δ)) : andT f g δ = some (.ok false δ) := by
  unfold andT; rw [bindM_ok h1]; rfl
theorem and_2 {f g : M Bool} {δ : De} {b : Bool} (h1 : f δ = some (.ok true δ)) (h2 : g δ = some (.ok b δ)) : andT f g δ = some (.ok b δ) := by
  unfold andT; rw [bindM_ok h1]; exact h2
theorem bin2_of {g : D → D → Option D} {m n : M D} {x y d : D} {δ δ1 δ2 : De} (h1 : m δ = some (.ok x δ1)) (h2 : n δ1 = some (.ok y δ2)) (h3 : g x y = some d) : bin2 g m n δ = some (.ok d δ2) := by
  unfold bin2; rw [bindM_ok h1, bindM_ok h2, h3]; rfl
theorem tst_of {m : M D} {b : Bool} {δ δ1 : De} (h : m δ = some (.ok (.bl b) δ1)) : tst m δ = some (.ok b δ1) := by
  unfold tst; rw [bindM_ok h]; rfl
theorem ne_no {m n : M D} {x y : D} {δ δ1 δ2 : De} (h1 : m δ = some (.ok x δ1)) (h2 : n δ1 = some (.ok y δ2)) (h3 : eqB x y = some true) : tst (bin2 neD m n) δ = some (.ok false δ2) :=
  tst_of (bin2_of h1 h2 (by unfold neD; rw [h3]; rfl))
theorem eq_of {m n : M D} {x y : D} {b : Bool} {δ δ1 δ2 : De} (h1 : m δ = some (.ok x δ1)) (h2 : n δ1 = some (.ok y δ2)) (h3 : eqB x y = some b) : tst (bin2 eqD m n) δ = some (.ok b δ2) :=
  tst_of (bin2_of h1 h2 (by unfold eqD; rw [h3]; rfl))
theorem call_of {f : DF} {m : M (List D)} {ds : List D} {d : D} {δ δ1 : De} (h1 : m δ = some (.ok ds δ1)) (h2 : f ds = some (.ret d)) : callM f m δ = some (.ok d δ1) := by
  unfold callM; rw [bindM_ok h1, h2]; rfl
theorem cb_of {g : List D → Option D} {m : M (List D)} {ds : List D} {d : D} {δ δ1 : De} (h1 : m δ = some (.ok ds δ1)) (h2 : g ds = some d) : callB g m δ = some (.ok d δ1) := by
  unfold callB; rw [bindM_ok h1, h2]; rfl
theorem cons_of {m : M D} {n : M (List D)} {d : D} {ds : List D} {δ δ1 δ2 : De} (h1 : m δ = some (.ok d δ1)) (h2 : n δ1 = some (.ok ds δ2)) : consM m n δ = some (.ok (d :: ds) δ2) := by
  unfold consM; rw [bindM_ok h1, bindM_ok h2]; rfl
theorem one_of {m : M D} {d : D} {δ δ1 : De} (h1 : m δ = some (.ok d δ1)) : consM m (pureM []) δ = some (.ok [d] δ1) := cons_of h1 rfl
theorem itM_of {g : List D → Option (List D)} {m : M (List D)} {ds es : List D} {δ δ1 : De} (h1 : m δ = some (.ok ds δ1)) (h2 : g ds = some es) : itM g m δ = some (.ok es δ1) := by
  unfold itM; rw [bindM_ok h1, h2]; rfl
theorem var_of {i : Nat} {d : D} {δ : De} (h : δ[i]? = some (.val d)) : varM i δ = some (.ok d δ) := by unfold varM; rw [h]
theorem told_ex {nl : List (Nat × Str)} {m : M D} {δ : De} {k : Nat} {n : Str} (h : m (hideOwn δ) = some (.ex k)) (hn : toldName nl k = some n) : toldM nl m δ = some (.ok (.str n) δ) := by
  unfold toldM; rw [h]; dsimp only; rw [hn]; rfl
theorem lst_of {m : M (List D)} {ds : List D} {δ δ1 : De} (h : m δ = some (.ok ds δ1)) (hl : ds.length ≤ 1000000) : lstM m δ = some (.ok (.lst ds) δ1) := by
  unfold lstM; rw [bindM_ok h, if_pos hl]; rfl
theorem eqB_nil : eqB (.lst []) (.lst []) = some true := rfl
theorem eqB_tnil : eqB (.tup []) (.tup []) = some true := rfl
theorem rng1_len {n : Nat} (h : n < 1000000) : rng1 [.int (n : Int)] = some (rangeL 0 n) := by
  unfold rng1
  dsimp only
  rw [if_pos (by unfold inR; omega)]
  rfl
theorem rng1_pred {n : Nat} (h : n < 1000000) : rng1 [.int ((n : Int) - 1)] = some (rangeL 0 (n - 1)) := by
  unfold rng1
  dsimp only
  rw [if_pos (by unfold inR; omega)]
  rw [show ((n : Int) - 1).toNat = n - 1 by omega]
theorem rangeL_mem {lo : Int} {n : Nat} {d : D} (h : d ∈ rangeL lo n) : ∃ k : Nat, k < n ∧ d = .int (lo + k) := by
  unfold rangeL at h
  obtain ⟨k, hk, rfl⟩ := List.mem_map.mp h
  exact ⟨k, List.mem_range.mp hk, rfl⟩
theorem at_int {t : List Int} {k : Nat} (h : k < t.length) : ixD (.lst (t.map .int)) (.int (k : Int)) = some (.int (t.getD k 0)) := by
  show atI _ _ = _
  refine atI_nat ?_
  rw [List.getElem?_map, List.getElem?_eq_getElem h, List.getD_eq_getElem?_getD, List.getElem?_eq_getElem h]
  rfl
theorem at_int1 {t : List Int} {k : Nat} (h : k + 1 < t.length) : ixD (.lst (t.map .int)) (.int ((k : Int) + 1)) = some (.int (t.getD (k + 1) 0)) := at_int h
theorem maxL_eq {t : List Int} (h : t ≠ []) : maxD [.lst (t.map .int)] = some (.int (maxL t)) := by
  unfold maxD; dsimp only; rw [intsOf_map]; cases t with
  | nil => exact absurd rfl h
  | cons x r => rfl
theorem minL_eq {t : List Int} (h : t ≠ []) : minD [.lst (t.map .int)] = some (.int (minL t)) := by
  unfold minD; dsimp only; rw [intsOf_map]; cases t with
  | nil => exact absurd rfl h
  | cons x r => rfl
theorem enum_ints : ∀ (t : List Int) (k : Nat), enumFrom k (t.map .int) = (List.range t.length).map fun i => .tup [.int ((k + i : Nat) : Int), .int (t.getD i 0)]
  | [], k => rfl
  | x :: r, k => by
    rw [List.map_cons, enumFrom, enum_ints r (k + 1), List.length_cons, List.range_succ_eq_map, List.map_cons, List.map_map]
    congr 1
    apply List.map_congr_left
    intro i _
    simp [Nat.add_assoc, Nat.add_comm 1 i]
theorem enum_mem {t : List Int} {d : D} (h : d ∈ enumFrom 0 (t.map .int)) : ∃ k : Nat, k < t.length ∧ d = .tup [.int (k : Int), .int (t.getD k 0)] := by
  rw [enum_ints] at h
  obtain ⟨k, hk, rfl⟩ := List.mem_map.mp h
  exact ⟨k, List.mem_range.mp hk, by simp⟩
theorem flatL_ints : ∀ xs : List Int, flatL (xs.map .int) = some (xs.map V.int)
  | [] => rfl
  | x :: xs => by rw [List.map_cons, flatL, flatL_ints xs]; rfl
theorem in_ints (r : Int) (xs : List Int) : inD false (.int r) (.lst (xs.map .int)) = some (.bl (xs.any fun x => x == r)) := by
  unfold inD inB flatOf
  dsimp only
  rw [flatL_ints]
  show some (D.bl (inV (.int r) (xs.map V.int))) = _
  unfold inV
  rw [List.any_map]
  rfl
theorem in_tints (r : Int) (xs : List Int) : inD false (.int r) (.tup (xs.map .int)) = some (.bl (xs.any fun x => x == r)) := by
  unfold inD inB flatOf
  dsimp only
  rw [flatL_ints]
  show some (D.bl (inV (.int r) (xs.map V.int))) = _
  unfold inV
  rw [List.any_map]
  rfl
theorem andM_of {m n : M D} {p q : Bool} {δ : De} (h1 : m δ = some (.ok (.bl p) δ)) (h2 : n δ = some (.ok (.bl q) δ)) : andM m n δ = some (.ok (.bl (p && q)) δ) := by
  unfold andM; rw [bindM_ok h1]; cases p
  · rfl
  · exact h2

theorem forD_inv {bd : D → De → Option De} {f : Fo} {J : De → Prop} : ∀ (ds : List D) (δ : De), (∀ d ∈ ds, ∀ δ, J δ → ∃ δ1 δ2, bd d δ = some δ1 ∧ f δ1 = some (.nx δ2) ∧ J δ2) → J δ → ∃ δ', forD bd f ds δ = some (.nx δ') ∧ J δ'
  | [], δ, _, h => ⟨δ, rfl, h⟩
  | d :: ds, δ, hs, h => by
    obtain ⟨δ1, δ2, e1, e2, h2⟩ := hs d (by simp) δ h
    obtain ⟨δ', e3, h3⟩ := forD_inv ds δ2 (fun x hx => hs x (by simp [hx])) h2
    refine ⟨δ', ?_, h3⟩
    rw [forD, e1]
    dsimp only
    rw [e2]
    exact e3
/-- a comprehension whose element throws the dice -/
theorem dice_lc {i v : Nat} {fe : M D} {P : D → Prop} (hiv : i ≠ v) (hf : ∀ (δ : De) (x y z : Int), ownAt δ i = some [.int x, .int y, .int z] → ∃ (d : D) (x' y' z' : Int), P d ∧ fe δ = some (.ok d (δ.set i (.own [.int x', .int y', .int z'])))) :
    ∀ (ds : List D) (δ : De) (x y z : Int), ownAt δ i = some [.int x, .int y, .int z] → ownAt δ v = none →
    ∃ (es : List D) (x' y' z' : Int), es.length = ds.length ∧ (∀ e ∈ es, P e) ∧ lcD [v] (bName v) (pureM true) fe ds δ = some (.ok es (δ.set i (.own [.int x', .int y', .int z'])))
  | [], δ, x, y, z, h, _ => by
    have e := ownAt_some h
    have hl : i < δ.length := (List.getElem?_eq_some_iff.mp e).1
    refine ⟨[], x, y, z, rfl, by simp, ?_⟩
    rw [lcD]
    congr 2
    apply List.ext_getElem?
    intro j
    by_cases hj : i = j
    · subst hj; rw [List.getElem?_set_self hl, e]
    · rw [List.getElem?_set_ne hj]
  | d :: ds, δ, x, y, z, h, hv => by
    have e := ownAt_some h
    have hl : i < δ.length := (List.getElem?_eq_some_iff.mp e).1
    have ow : ownAt (δ.set v (.val d)) i = some [.int x, .int y, .int z] := by
      unfold ownAt; rw [List.getElem?_set_ne (Ne.symm hiv), e]
    obtain ⟨r, x1, y1, z1, hp, ev⟩ := hf _ _ _ _ ow
    have own1 : ownAt (δ.set i (.own [.int x1, .int y1, .int z1])) i = some [.int x1, .int y1, .int z1] := by
      unfold ownAt; rw [List.getElem?_set_self hl]
    have ownv : ownAt (δ.set i (.own [.int x1, .int y1, .int z1])) v = none := by
      unfold ownAt at hv ⊢; rw [List.getElem?_set_ne hiv]; exact hv
    obtain ⟨rs, x', y', z', h1, h2, h3⟩ := dice_lc hiv hf ds (δ.set i (.own [.int x1, .int y1, .int z1])) x1 y1 z1 own1 ownv
    refine ⟨r :: rs, x', y', z', by simp [h1], fun q hq => ?_, ?_⟩
    · rcases List.mem_cons.mp hq with rfl | hq
      · exact hp
      · exact h2 q hq
    · have no : noOwn δ [v] = true := by unfold noOwn; simp [hv]
      have st : ∀ δ : De, bName v d (wipeD δ [v]) = some (δ.set v (.val d)) := fun δ => by
        show some ((δ.set v .un).set v (.val d)) = _
        rw [List.set_set]
      rw [lcD, if_pos no, st]
      dsimp only [pureM]
      rw [ev]
      dsimp only
      have er : restD δ ((δ.set v (.val d)).set i (.own [.int x1, .int y1, .int z1])) [v] = δ.set i (.own [.int x1, .int y1, .int z1]) := by
        apply List.ext_getElem?
        intro j
        rw [restD_get]
        by_cases hj : j = v
        · subst hj
          rw [if_pos (by simp), List.getElem?_set_ne hiv, List.getElem?_set_ne hiv, List.getElem?_set]
          by_cases hl : j < δ.length
          · simp [hl]
          · simp [hl]
        · rw [if_neg (by simpa using hj)]
          by_cases hi : i = j
          · subst hi
            rw [List.getElem?_set_self (by simpa using hl), List.getElem?_set_self hl]
          · rw [List.getElem?_set_ne hi, List.getElem?_set_ne hi, List.getElem?_set_ne (Ne.symm hj)]
      rw [er, h3]
      dsimp only
      rw [List.set_set]
theorem lcM_dice {i v : Nat} {fe : M D} {P : D → Prop} {items : M (List D)} {δ δ1 : De} {ds : List D} {x y z : Int} (hiv : i ≠ v) (hf : ∀ (δ : De) (x y z : Int), ownAt δ i = some [.int x, .int y, .int z] → ∃ (d : D) (x' y' z' : Int), P d ∧ fe δ = some (.ok d (δ.set i (.own [.int x', .int y', .int z']))))
    (hi : items δ = some (.ok ds δ1)) (hl : ds.length < 1000000) (h : ownAt δ1 i = some [.int x, .int y, .int z]) (hv : ownAt δ1 v = none) :
    ∃ (es : List D) (x' y' z' : Int), es.length = ds.length ∧ (∀ e ∈ es, P e) ∧ lcM [v] (bName v) (pureM true) fe items δ = some (.ok (.lst es) (δ1.set i (.own [.int x', .int y', .int z']))) := by
  obtain ⟨es, x', y', z', h1, h2, h3⟩ := dice_lc hiv hf ds δ1 x y z h hv
  refine ⟨es, x', y', z', h1, h2, ?_⟩
  unfold lcM
  rw [bindM_ok hi, if_pos hl, bindM_ok h3]
  rfl
end FL

set_option Elab.async false
set_option linter.all false
set_option maxRecDepth 100000
set_option maxHeartbeats 2000000
/-! FL13: lambdas that are kept and called later. -/
namespace FL
open PySem PySem.Spec PyProof.Rows L2
theorem clo_nil {cells : List (Str × Addr)} {names : List (Str × NameKind)} (h : ∀ y ∈ names, y.2 ≠ .free) : cloFrom cells names [] = [] := by
  refine List.eq_nil_iff_forall_not_mem.mpr fun z hz => ?_
  rcases cloFrom_mem (n := z.1) (c := z.2) hz with q | ⟨q, _⟩
  · cases q
  · exact h _ q rfl
theorem lamO_ok {P : Program} {w : World} {H : Hp} {h : Heap} {L : Lam} {f c' : Addr} {pm ctv : Value} (e : h.get? f = some (PySem.W.kla_obj "<lambda>" L.q L.params L.body L.scope [] pm c' ctv)) : ObjOk P w H h f (LamO L f c') :=
  ⟨⟨pm, ctv, e⟩, ⟨_, e⟩, fun _ _ ⟨a, b, z⟩ st => ⟨a, b, st _ z⟩⟩
section
variable {X : Cx} {pins : List (Addr × Obj)} {σ : L2.St} {H : Hp} {s : Shared}
/-- the lambda is made, and known from then on -/
theorem mk_lam (ix : Nat) {T : List (Addr × Str)} {C P : Addr} {params : Arguments} {body : Expr} {scope : Scope} {pos : Pos} {Ex Q : Value → Shared → Prop} (I : Inv X pins σ H s) (B : LamX.TabB X.base X.mg C P) (hco : X.env.code = .ref C)
    (inT : (P, X.env.qual ++ "<lambda>") ∈ T) (one : ∀ p ∈ T, p.1 = P → p.2 = X.env.qual ++ "<lambda>") (tabs : LamX.Tabs T H) (nd : defaultsOf params X.env = ([], [])) (nf : ∀ y ∈ scope.names, y.2 ≠ .free)
    (k : ∀ (f c' : Addr) (H1 : Hp) (s' : Shared), Inv X pins σ (upd H1 f (LamO ⟨params, body, scope, X.env.qual ++ "<lambda>", ix⟩ f c')) s' → LamX.ExtN H H1 → LamX.Tabs T H1 → H1 f = none → H1 c' = some (LamX.CodeO c' (X.env.qual ++ "<lambda>")) → Q (.ref f) s') :
    wpAny (model X.prog X.w) X.A (eval (.Lambda params body scope pos) X.env) Q Ex s := by
  obtain ⟨ps, tP, tri, am⟩ := tabs _ inT
  have cl0 : closureFor scope X.env = pure [] := by
    rw [← clo_nil (cells := X.env.cells) nf]
    exact closure_ok fun y hy e => absurd e (nf y hy)
  have sP := I.hok P _ tP
  apply PySem.W.kla_eval nd
  cases found : codeAmong pos ps.toList with
  | some cv =>
    obtain ⟨c', e, hk⟩ := am pos cv found
    subst e
    apply PySem.W.kla_makeFunctionHit (mg := X.mg) (c := C) (P := P) (ps := ps) cl0 I.ok.glob (I.mod.glob.keeps I.bk) hco (B.code.keeps I.bk) sP tri found (B.bm.keeps I.bk)
    intro ctv h' tk ext big
    have J := I.laid (a := h'.objs.size) (o := LamO ⟨params, body, scope, X.env.qual ++ "<lambda>", ix⟩ h'.objs.size c') (t' := tk) (h' := h'.push (PySem.W.kla_obj "<lambda>" (X.env.qual ++ "<lambda>") params body scope [] ((X.mg "__name__").getD .none) c' ctv))
      (fun b o e => Heap.get?_push_of_some _ (ext b o e)) big (lamO_ok (Heap.get?_push_size _ rfl))
    exact k _ c' H _ J (.refl H) tabs (I.hok.fresh big) hk
  | none =>
    apply PySem.W.kla_makeFunction (mg := X.mg) (c := C) (P := P) (ps := ps) cl0 I.ok.glob (I.mod.glob.keeps I.bk) hco (B.code.keeps I.bk) sP tri found B.gP (B.bm.keeps I.bk)
    intro c' ctv h' tk ext ge lt rec tb
    obtain ⟨c2, oc, vs, t, e2, r1, r2, r3⟩ := rec
    cases e2
    have big : s.heap.objs.size ≤ h'.objs.size := Nat.le_trans ge (Nat.le_of_lt lt)
    have nC : H c' = none := I.hok.fresh ge
    have J := LamX.inv_table (t' := tk) (more := #[rawInt pos.line, rawInt pos.col, .ref c']) I tP ext tb ge ⟨oc, vs, t, r1, r2, r3⟩
    have J2 := J.laid (a := h'.objs.size) (o := LamO ⟨params, body, scope, X.env.qual ++ "<lambda>", ix⟩ h'.objs.size c') (t' := tk) (h' := h'.push (PySem.W.kla_obj "<lambda>" (X.env.qual ++ "<lambda>") params body scope [] ((X.mg "__name__").getD .none) c' ctv))
      (fun b o e => Heap.get?_push_of_some _ e) (Nat.le_refl _) (lamO_ok (Heap.get?_push_size _ rfl))
    have grow : LamX.ExtN H (upd (upd H P (.tbl (ps ++ #[rawInt pos.line, rawInt pos.col, .ref c']))) c' (LamX.CodeO c' (X.env.qual ++ "<lambda>"))) := fun b o e n => by
      have nP : b ≠ P := fun z => by subst z; rw [tP] at e; exact n ps (Option.some.inj e).symm
      rw [upd_ne (ne_of_none e nC), upd_ne nP, e]
    refine k _ c' _ _ J2 grow (fun p hp => ?_) (J.hok.fresh (Nat.le_refl _)) upd_same
    have toL : (ps ++ #[rawInt pos.line, rawInt pos.col, .ref c']).toList = ps.toList ++ [rawInt pos.line, rawInt pos.col, .ref c'] := by simp
    by_cases hb : p.1 = P
    · have pc : P ≠ c' := ne_of_none tP nC
      rw [hb, one p hp hb]
      refine ⟨ps ++ #[rawInt pos.line, rawInt pos.col, .ref c'], by rw [upd_ne pc, upd_same], ?_, fun p' cv e => ?_⟩
      · rw [toL]; exact PySem.TriplesOk_snoc _ _ _ _ tri
      · rw [toL] at e
        rcases LamX.among_app _ tri e with z | z
        · obtain ⟨d, d1, d2⟩ := am p' cv z
          exact ⟨d, d1, grow _ _ d2 LamX.codeO_ne⟩
        · exact ⟨c', z, upd_same⟩
    · obtain ⟨qs, a1, a2, a3⟩ := tabs p hp
      refine ⟨qs, by rw [upd_ne (ne_of_none a1 nC), upd_ne hb]; exact a1, a2, fun p' cv e => ?_⟩
      obtain ⟨d, d1, d2⟩ := a3 p' cv e
      exact ⟨d, d1, grow _ _ d2 LamX.codeO_ne⟩
end
def tMk (T : List (Addr × Str)) (L : Lam) : TE := fun _ H Q => LamX.Tabs T H ∧ ∀ (H1 : Hp) (f c' : Addr), LamX.ExtN H H1 → LamX.Tabs T H1 → H1 f = none → H1 c' = some (LamX.CodeO c' L.q) → Q (.ref f) (upd H1 f (LamO L f c'))
theorem pe_mk (ix : Nat) {X : Cx} {T : List (Addr × Str)} {C P : Addr} {params : Arguments} {body : Expr} {scope : Scope} {pos : Pos} (B : LamX.TabB X.base X.mg C P) (hco : X.env.code = .ref C)
    (inT : (P, X.env.qual ++ "<lambda>") ∈ T) (one : ∀ p ∈ T, p.1 = P → p.2 = X.env.qual ++ "<lambda>") (nd : defaultsOf params X.env = ([], [])) (nf : ∀ y ∈ scope.names, y.2 ≠ .free) :
    PE X (.Lambda params body scope pos) (tMk T ⟨params, body, scope, X.env.qual ++ "<lambda>", ix⟩) :=
  ⟨fun pins s σ H Q I h => mk_lam ix I B hco inT one h.1 nd nf fun f c' H1 s' J eN T1 fr hc => ⟨.ref f, _, J, rfl, h.2 H1 f c' eN T1 fr hc⟩⟩
/-- a known object is kept by the def too -/
theorem S.know {K : PySem.W.Frag} {T : List (Addr × PySem.Str)} {F G H : Hp} {σ : L2.St} {δ : De} (s : S (K, T) F σ G H δ) (hT : T ≠ []) {p : Addr} {o : HO} (h : H p = some o) (nl : ∀ xs, o ≠ .lst xs) (nt : ∀ ps, o ≠ .tbl ps) : S (K, T) F σ (upd G p o) H δ := by
  have sg : Same G (upd G p o) := fun b x e => by
    by_cases hb : b = p
    · subst hb; rw [upd_same, ← h]; exact s.sub _ _ e
    · rw [upd_ne hb]; exact e
  refine ⟨fun b x e => ?_, s.frm, fun b x e => ?_, s.len, fun i d e => ?_, fun i xs e => ?_, s.inj, s.tab, fun x hx => ⟨(s.tnf x hx).1, ?_⟩, fun b ps e => ?_, s.ntf⟩
  · by_cases hb : b = p
    · subst hb; rw [upd_same] at e; rw [← e]; exact h
    · rw [upd_ne hb] at e; exact s.sub _ _ e
  · have nb : b ≠ p := fun z => by
      subst z
      obtain ⟨xs, q⟩ := s.ntf.resolve_left hT b x e
      have := s.frm _ _ e
      rw [h] at this; cases this
      exact nl xs q
    rw [upd_ne nb]; exact s.dis _ _ e
  · obtain ⟨v, h1, h2⟩ := s.val i d e
    exact ⟨v, h1, h2.mono sg⟩
  · obtain ⟨q, vs, h1, h2, h3, h4, h5⟩ := s.own i xs e
    have nb : q ≠ p := fun z => by subst z; rw [h] at h2; cases h2; exact nl vs rfl
    exact ⟨q, vs, h1, h2, h3.mono sg, by rw [upd_ne nb]; exact h4, h5⟩
  · obtain ⟨ps, hp⟩ := s.tab_at hx
    have nb : x.1 ≠ p := fun z => by rw [z, h] at hp; cases hp; exact nt ps rfl
    rw [upd_ne nb]; exact (s.tnf x hx).2
  · by_cases hb : b = p
    · subst hb; rw [upd_same] at e; cases e; exact nt ps rfl
    · rw [upd_ne hb] at e; exact s.ntg b ps e
section
variable {c : SC}
/-- lambda: e, kept -/
theorem fe_lam (ix : Nat) {C Pt : Addr} {params : Arguments} {body : Expr} {scope : Scope} {pos : Pos} (L : LamD c C Pt) (nd : ∀ env : Env, defaultsOf params env = ([], []) := by intro _; rfl) (nf : scope.names.all (fun y => !decide (y.2 = .free)) = true := by rfl) :
    FE c (.Lambda params body scope pos) (pureM (.fn ⟨params, body, scope, c.qual ++ "<lambda>", ix⟩)) := by
  have hT : c.T ≠ [] := by rw [L.T]; simp
  have nf' : ∀ y ∈ scope.names, y.2 ≠ .free := fun y hy => by simpa using List.all_eq_true.mp nf y hy
  refine ⟨tMk c.T ⟨params, body, scope, c.qual ++ "<lambda>", ix⟩, fun X h => ?_, fun F σ G H δ r s e Q p => ?_⟩
  · obtain ⟨h1, h2⟩ := h.code.resolve_left hT
    have q := pe_mk ix (X := X) (T := c.T) (C := C) (P := Pt) (params := params) (body := body) (scope := scope) (pos := pos) (by rw [h.base, h.mg]; exact L.tb) (by rw [h1]; exact L.code) (by rw [h2, L.T]; simp)
      (fun x hx _ => by rw [L.T] at hx; rw [h2]; simp only [List.mem_singleton] at hx; rw [hx]) (nd _) nf'
    rw [h2] at q
    exact q
  · cases e
    refine ⟨s.tab, fun H1 f c' eN T1 fr hc => ?_⟩
    have s1 := (s.extN hT eN T1).know hT hc (fun xs z => by cases z) (fun ps z => by cases z)
    have s2 := s1.new (o := LamO ⟨params, body, scope, c.qual ++ "<lambda>", ix⟩ f c') fr
    have g : Same G (upd (upd G c' (LamX.CodeO c' (c.qual ++ "<lambda>"))) f (LamO ⟨params, body, scope, c.qual ++ "<lambda>", ix⟩ f c')) := fun b o e => by
      have e1 := (s.extN hT eN T1).sub _ _ e
      have nb : b ≠ f := ne_of_none e1 fr
      rw [upd_ne nb]
      by_cases hb : b = c'
      · subst hb; rw [upd_same, ← hc]; exact e1
      · rw [upd_ne hb]; exact e
    refine p _ _ _ s2 g (.fn (c' := c') upd_same ?_)
    have nb : c' ≠ f := ne_of_none hc fr
    rw [upd_ne nb, upd_same]
end
end FL

set_option Elab.async false
set_option linter.all false
set_option maxRecDepth 100000
set_option maxHeartbeats 2000000
/-! FL14: the call of a kept lambda by the def that tells. -/
namespace FL
open PySem PySem.Spec PyProof.Rows L2
section
variable {X : Cx} {pins : List (Addr × Obj)} {σ : L2.St} {H : Hp} {s : Shared}
/-- a(), in the def that got a kept lambda -/
theorem pe_actK {CXg : CXT} {Eg : XK} {Ng : List Str} {qg : Str} {sg : Scope} {g f c' : Addr} {cdg : Value} {L : Lam} {k i : Nat} {a : Str} {pn : List (Addr × Obj)} {xe : Value → Shared → Prop} {W : WX} {E : XK} {tb : TE} {p1 p2 : Pos}
    (I : Inv X pins σ H s) (hq : L.q = X.env.qual ++ "<lambda>") (hL : LamX.LamS X.env.scope L.scope) (nf : ∀ y ∈ L.scope.names, y.2 ≠ .free)
    (hbind : ∀ pm cv ctv : Value, bindArgs (PySem.W.kla_fn "<lambda>" L.q L.params L.body L.scope [] pm cv ctv) ⟨[], []⟩ = pure [])
    (tk : Takes ((cxOf CXg X.prog X.w X.K X.mg X.base Ng qg sg g cdg X.A X.stack s H Eg).tr pn xe) W) (hW : ∀ cls d σ' H', E cls d H' → W cls d σ' H') (hr : Room (k + 1) (X.A.deeper (envOfC qg sg s.heap.objs.size g cdg)))
    (hbody : ∀ (A : Around) (outer : List Env) (s : Shared) (H : Hp), Room k (A.deeper (LamX.lamEnv X L.scope s.heap.objs.size f c')) → PE (LamX.lamCx X A outer s H E L.scope f c') L.body tb)
    (hN : Ng[i]? = some a) (hv : Vis sg a) (hd : (a == ("__debug__" : Str)) = false := by decide) (hcd : (a == ("__classdict__" : Str)) = false := by decide) :
    PE ((cxOf CXg X.prog X.w X.K X.mg X.base Ng qg sg g cdg X.A X.stack s H Eg).tr pn xe) (.Call (.Name a p1) [] [] p2)
      (fun σZ HZ Q => σZ[i]? = some (some (.ref f)) ∧ HZ c' = some (LamX.CodeO c' L.q) ∧ HZ f = some (LamO L f c') ∧ tb σ HZ Q) := by
  have cl0 : cloFrom X.env.cells L.scope.names [] = [] := clo_nil nf
  refine ⟨fun pinsZ sZ σZ HZ Q IZ ⟨hs, hc, hf, ht⟩ => ?_⟩
  apply wpAny_Call_Name_kw
  refine thn ((pe_var (pos := p1) (i := i) hN hv hd hcd).run pinsZ sZ σZ HZ (fun v H1 => v = .ref f ∧ H1 = HZ) IZ ⟨.ref f, hs, rfl, rfl⟩) ?_
  rintro u s1 ⟨v, H1, J, rv, ev, eH⟩
  subst ev
  subst eH
  obtain rfl : u = Value.ref f := rv
  obtain ⟨⟨pm, ctv, hfn⟩, _, _⟩ := J.hok f _ hf
  obtain ⟨⟨oc, vs, t, k1, k2, k3⟩, _, _⟩ := J.hok c' _ hc
  have bind2 := hbind pm (.ref c') ctv
  rw [← cl0, hq] at hfn bind2
  rw [hq] at k3
  refine PySem.W.callWith_F0 ⟨_, _, _, _, hfn⟩ ?_
  have un : Un (frs X.stack) [] H H1 s.heap s1.heap := J.base
  have px : Passes (L2.CX X.prog X.w) ((cxOf CXg X.prog X.w X.K X.mg X.base Ng qg sg g cdg X.A X.stack s H Eg).tr pn xe) E := passes_call tk hW
  have run : codeAny (model X.prog X.w) (X.A.deeper (envOfC qg sg s.heap.objs.size g cdg)) (.call (.ref f) ⟨[], []⟩) (CR (L2.CX X.prog X.w) (envOfC qg sg s.heap.objs.size g cdg :: X.stack) X.prog X.w H1 s1 Q E) s1 := by
    apply PySem.W.kla_callFunE hr.depth hfn rfl hL.co hL.gen rfl ⟨c', oc, vs, t, rfl, k1, k2, k3⟩
    rw [bind2]
    apply wpAny_pure
    refine wpAny_newFunctionEnv (fun y hy => (hL.own y hy).2) (fun y hy => nomatch hy) (fun h₁ hns hsb => ⟨J.nolimit.fresh _ hsb, ?_⟩) hL.kind
    have older : ∀ b o, s1.heap.get? b = some o → h₁.get? b = some o := fun b o e => hsb.extBut b o (Nat.ne_of_lt (Heap.lt_size e)) (Heap.get?_push_of_some _ e)
    have J1 : Inv (LamX.lamCx X (X.A.deeper (envOfC qg sg s.heap.objs.size g cdg)) (envOfC qg sg s.heap.objs.size g cdg :: X.stack) s1 H1 E L.scope f c') [] σ H1 { s1 with heap := h₁, toks := s1.toks + ([] : List (Str × Value)).length } := LamX.lam_start2 I hL J.env0 hr.hd un hns older
    apply PySem.W.kla_codeExpr
    have step := (hbody _ _ s1 H1 (hr.deeper _)).run [] _ _ H1 Q J1 ht
    have step2 := wpAny_mono step (Q' := CE (envOfC qg sg s.heap.objs.size g cdg :: X.stack) X.prog X.w H1 s1 Q) (fun v s' ⟨w', H', J', rv, q⟩ => ⟨w', H', J'.os, J'.bare, J'.base, J'.hok, rv, q⟩) (fun _ _ q => q)
    exact step2
  refine wpAny_call (codeAny_mono run fun r s' q => ?_)
  match r, q with
  | .error e, q => exact px pinsZ σZ H1 s1 e s' J q
  | .ok (.ret u), q => exact J.after q
  | .ok .next, q => exact q.elim
  | .ok .brk, q => exact q.elim
  | .ok .cont, q => exact q.elim
end

/-- the def that tells, given a kept lambda; B: which lambdas are served, and their bodies' readings -/
theorem pe_toldK {X : Cx} {TT : (XK → Hp → VK → Prop) → Hp → VK → Prop} {x a : Str} {g : Addr} {k : Nat} {pg : Arguments} {bg : List Stmt} {sg : Scope} {dV kV doc pm cdv ct oc : Value} {an od : Option Addr} {osl : Array (Option Value)} {Ng : List Str} {e : Expr} {t : TA} {p pos : Pos}
    (hg : Gl X x) (hm : X.mg x = some (.ref g)) (hk : PySem.W.keepIn X.K (.ref g) = true) (lk : X.K.lookup g = some ⟨oc, od, .func (PySem.W.fnOf x x pg bg sg dV kV doc pm an cdv ct), osl⟩) (hcg : PySem.W.codeIn X.K cdv x = true)
    (hb : L2.Binds X.K (PySem.W.fnOf x x pg bg sg dV kV doc pm an cdv ct) [a] []) (Sg : FnScope Ng [a] sg) (hNg : Ng[0]? = some a) (hva : Vis sg a) (hG : LamX.GivesTo X Ng x sg g cdv bg a (X.env.qual ++ "<lambda>") TT) (hr : Room (k + 2) X.A)
    (ha : PA X [e] t) (B : Lam → (XK → TE) → Prop)
    (hB : ∀ L tb, B L tb → L.q = X.env.qual ++ "<lambda>" ∧ LamX.LamS X.env.scope L.scope ∧ (∀ y ∈ L.scope.names, y.2 ≠ .free) ∧ (∀ pm cv ctv : Value, bindArgs (PySem.W.kla_fn "<lambda>" L.q L.params L.body L.scope [] pm cv ctv) ⟨[], []⟩ = pure []) ∧
      ∀ (A : Around) (outer : List Env) (s : Shared) (H : Hp) (E : XK) (f c' : Addr), Room k (A.deeper (LamX.lamEnv X L.scope s.heap.objs.size f c')) → PE (LamX.lamCx X A outer s H E L.scope f c') L.body (tb E))
    (hdb : (x == ("__debug__" : Str)) = false := by decide) (hd : (a == ("__debug__" : Str)) = false := by decide) (hcd : (a == ("__classdict__" : Str)) = false := by decide)
    (he : starEach [e] X.env = (false, eval e X.env) :: starEach [] X.env := by rfl) (hpl : (backTo pos (starEach [] X.env)).any (·.1) = false := by rfl) :
    PE X (.Call (.Name x p) [e] [] pos) (fun σ H Q => t σ H fun vs H1 => ∃ (f c' : Addr) (L : Lam) (tb : XK → TE), B L tb ∧ vs = [.ref f] ∧ H1 f = some (LamO L f c') ∧ H1 c' = some (LamX.CodeO c' L.q) ∧ TT (fun E H' Q' => H' f = some (LamO L f c') ∧ tb E σ H' Q') H1 Q) := by
  refine ⟨fun pins s σ H Q I h => ?_⟩
  apply wpAny_Call_Name_kw
  refine ld_glob I hg hm ?_ hdb
  refine PySem.W.callWith_K (h₀ := X.base) I.ok.mod.kin hk (thn (ha.run pos pins s σ H _ I h) ?_) he hpl
  rintro us s1 ⟨vs, H1, J, r, f, c', L, tb, hbl, rfl, hf, hc, ht⟩
  refine ⟨J.kIn, ?_⟩
  obtain ⟨hq, hL, nf, hbind, hbody⟩ := hB L tb hbl
  obtain ⟨u, rfl, ru⟩ := vals1 r
  obtain rfl : u = Value.ref f := ru
  have run : codeAny (model X.prog X.w) X.A (.call (.ref g) ⟨[.ref f], []⟩) (CR C8.CX0 X.stack X.prog X.w H1 s1 Q C8.E0) s1 := by
    refine LamX.run_ofS (N := Ng) (ps := [a]) (us := [.ref f]) (vs := [.ref f]) lk hcg Sg hr J.env0 (hb s1 [.ref f] J.kIn rfl) (.cons rfl .nil) rfl fun hr2 => ?_
    obtain ⟨t2, p2, q2⟩ := hG f c' s1 H1 Q (fun E H' Q' => H' f = some (LamO L f c') ∧ tb E σ H' Q')
      (fun W pn xe E p1 p2 tk hW => by
        have := pe_actK (i := 0) (f := f) (c' := c') (p1 := p1) (p2 := p2) J hq hL nf hbind tk hW hr2 (fun A outer s H hr3 => hbody A outer s H E f c' hr3) hNg hva hd hcd
        rw [hq] at this
        exact this)
      (by rw [← hq]; exact hc) ht
    exact ⟨t2, p2.nox, q2⟩
  refine wpAny_call (codeAny_mono run fun r s' q => ?_)
  match r, q with
  | .error e, q => exact (show False from q).elim
  | .ok (.ret u), q => exact J.after q
  | .ok .next, q => exact q.elim
  | .ok .brk, q => exact q.elim
  | .ok .cont, q => exact q.elim
/-- what is known of a kept lambda where it is called -/
structure LamOk (c : SC) (k : Nat) (L : Lam) (f : M D) : Prop where
  q : L.q = c.qual ++ "<lambda>"
  sb : LamX.lamSB c.sc L.scope = true
  nf : L.scope.names.all (fun y => !decide (y.2 = .free)) = true
  bind : ∀ pm cv ctv : Value, bindArgs (PySem.W.kla_fn "<lambda>" L.q L.params L.body L.scope [] pm cv ctv) ⟨[], []⟩ = pure []
  body : ∀ E, FE (lamSC c L.scope k E) L.body f
open Classical in
noncomputable def toldK (nl : List (Nat × Str)) (lt : List (Lam × M D)) (f : M D) : M D := bindM f fun d δ => match d with
  | .fn L => match lt[L.ix]? with
    | some p => if p.1 = L then toldM nl p.2 δ else none
    | none => none
  | _ => none
theorem fe_toldK (k : Nat) {c : SC} {C Pt : Addr} {nl : List (Nat × Str)} {lt : List (Lam × M D)} {e : Expr} {f : M D} {p pos : Pos} (Td : ToldD c.P c.w c.K c.mg c.base c.cl nl) (LD : LamD c C Pt) (hl : ∀ x ∈ lt, LamOk c k x.1 x.2) (he : FE c e f)
    (hk : Nat.ble (k + 2) c.k = true := by rfl) (hg : Gb c "_law_told" := by rfl) (hs : ∀ env : Env, starEach [e] env = (false, eval e env) :: starEach [] env := by intro _; rfl) (hpl : ∀ env : Env, (backTo pos (starEach [] env)).any (·.1) = false := by intro _; rfl) :
    FE c (.Call (.Name "_law_told" p) [e] [] pos) (toldK nl lt f) := by
  obtain ⟨g, sg, Ng, pg, dV, kV, doc, pm, cdv, ct, oc, an, od, osl, p1, p2, p3, p8, h₀, hds, q1, q2, q3, q4, q5, q6, q7, q8, q9, q10⟩ := Td.ex
  have hT : c.T ≠ [] := by rw [LD.T]; simp
  obtain ⟨te, pe, se⟩ := he.ex
  let B : Lam → (XK → TE) → Prop := fun L tb => ∃ f, (L, f) ∈ lt ∧ ∀ E, (∀ X, In (lamSC c L.scope k E) X → PE X L.body (tb E)) ∧ Sp2 (lamSC c L.scope k E).κ c.cl E (Rep c.K) (tb E) f
  refine ⟨fun σ H Q => tCons te tNil σ H fun vs H1 => ∃ (f c' : Addr) (L : Lam) (tb : XK → TE), B L tb ∧ vs = [.ref f] ∧ H1 f = some (LamO L f c') ∧ H1 c' = some (LamX.CodeO c' L.q) ∧ TTm c.K (nl.map fun p => (c.cl p.1, p.2)) (fun E H' Q' => H' f = some (LamO L f c') ∧ tb E σ H' Q') H1 Q, fun X h => ?_, fun F σ G H δ r s e Q p => ?_⟩
  · obtain ⟨hc1, hc2⟩ := h.code.resolve_left hT
    have hG : LamX.GivesTo X Ng "_law_told" sg g cdv [.Try [.Return (some (.Call (.Name "what" p1) [] [] p2)) p3] (h₀ :: hds) [] [] p8] "what" (X.env.qual ++ "<lambda>") (TTm X.K (nl.map fun p => (c.cl p.1, p.2))) := gives_many (by rw [h.mg]; exact q9) q10
    rw [h.K] at hG
    exact pe_toldK (k := k) (show X.env.scope.names.lookup _ = _ by rw [h.sc]; exact hg) (by rw [h.mg]; exact q1) (by rw [h.K]; exact q2) (by rw [h.K]; exact q3) (by rw [h.K]; exact q4) (by rw [h.K]; exact q5) q6 q7 q8 hG (h.room.mono (Nat.le_of_ble_eq_true hk))
      (pa_cons (pe X h) pa_nil (hs _)) B (fun L tb ⟨f, hm, hf⟩ => by
        have lo := hl _ hm
        refine ⟨by rw [hc2]; exact lo.q, LamX.lamS_by (by rw [h.sc]; exact lo.sb), fun y hy => by simpa using List.all_eq_true.mp lo.nf y hy, lo.bind, fun A outer s H E f c' hr => (hf E).1 _ (in_lam h A outer s H f c' hr)⟩) (he := hs _) (hpl := hpl _)
  · refine se.step s e p fun G1 H1 δ1 v d s1 g1 rv e1 p1 => ?_
    cases d with
    | fn L =>
      cases rv with
      | @fn f c' L a1 a2 =>
        dsimp only at e1
        cases hi : lt[L.ix]? with
        | none => rw [hi] at e1; cases e1
        | some x =>
          rw [hi] at e1
          dsimp only at e1
          split at e1
          · rename_i ex
            obtain ⟨L0, m⟩ := x
            have ex : L0 = L := ex
            subst ex
            have hm : (L0, m) ∈ lt := List.mem_of_getElem? hi
            have lo := hl _ hm
            refine ⟨f, c', L0, fun E => Classical.choose (lo.body E).ex, ⟨m, hm, fun E => Classical.choose_spec (lo.body E).ex⟩, rfl, s1.sub _ _ a1, s1.sub _ _ a2, ?_⟩
            have s2 := s1.hide
            unfold toldM at e1
            dsimp only at e1
            cases hf : m (hideOwn δ1) with
            | none => rw [hf] at e1; cases e1
            | some rr =>
              rw [hf] at e1
              have bs : ∀ b o, besides G1 H1 b = some o → G1 b = none ∧ H1 b = some o := fun b o e => by
                unfold besides at e
                split at e
                · cases e
                · rename_i q; exact ⟨q, e⟩
              refine ⟨s1.sub _ _ a1, ?_⟩
              refine (Classical.choose_spec (lo.body (Ech c.K Q (nl.map fun p => (c.cl p.1, p.2)))).ex).2 _ σ G1 H1 _ rr s2 hf Q ?_
              cases rr with
              | ok d δ' =>
                cases e1
                exact fun G' H' v s' g' rv => p1 G' H' v (s1.after g' s'.sub s'.frm s'.dis s'.ntg) g' rv
              | ex n =>
                dsimp only at e1
                cases hn : toldName nl n with
                | none => rw [hn] at e1; cases e1
                | some w =>
                  rw [hn] at e1
                  cases e1
                  intro G' H' g' h' f'
                  refine ech_of hn (fun j hj => Td.exm n j (toldName_mem hn) hj) ?_
                  exact p1 G1 H' _ (s1.after (Same.refl _) (g'.trans h') f' (fun b o q => (bs b o q).1) s1.ntg) (Same.refl _) (.str _)
          · cases e1
    | _ => cases e1
end FL

set_option Elab.async false
set_option linter.all false
set_option maxRecDepth 100000
set_option maxHeartbeats 2000000
/-! FL15: sorted of a list or a tuple of data. -/
namespace FL
open PySem PySem.Spec PyProof.Rows L2 PySem.W
section
variable {prog : Program} {w : World} {A : Around} {Ex : Value → Shared → Prop} {s : Shared} {β : Type} {vs : List Value} {bs : List β} {enc : β → PyData} {R : Value → β → Prop}
/-- the heap with a new list of the items vs -/
def heldH (h : Heap) (vs : List Value) : Heap := (h.push (seqObj "list" #[] 0)).update h.objs.size (Obj.mapSeq (· ++ vs.toArray))
theorem heldH_size (h : Heap) (vs : List Value) : (heldH h vs).objs.size = h.objs.size + 1 := by unfold heldH; rw [Heap.size_update, size_push']
theorem collect_seq2 {l : Addr} {T : String} {o : Obj} {n : Nat} {Q : List Value → Shared → Prop} (hT : T = "list" ∨ T = "tuple") (ho : s.heap.get? l = some o) (hc : o.cls = .type T) (hd : o.data = .seq vs.toArray n) (lv : vs.length ≤ sizeLine)
    (k : Q vs { s with heap := heldH s.heap vs }) : wpAny (model prog w) A (collect (.ref l)) Q Ex s := by
  have bare : (s.heap.push { cls := .type "list", data := .seq ([] : List Value).toArray }).get? s.heap.objs.size = some { cls := .type "list", data := .seq #[] 0 } := Heap.get?_push_size _ rfl
  have full := Heap.get?_update_self (Obj.mapSeq (· ++ vs.toArray)) bare rfl
  have tail : wpAny (model prog w) A (match Value.ref s.heap.objs.size with
      | Value.ref a => do match (← load a).data with
          | Data.seq xs _ => pure xs.toList
          | _ => unsupported "internal:collect"
      | _ => unsupported "internal:collect") Q Ex { s with heap := heldH s.heap vs } := by
    apply wpAny_bind (wpAny_load full _)
    apply wpAny_pure
    show Q ((#[] : Array Value) ++ vs.toArray).toList _
    rw [show ((#[] : Array Value) ++ vs.toArray).toList = vs by simp]
    exact k
  unfold collect
  apply wpAny_bind
  apply wpAny_runValue
  apply codeAny_builtin PySem.F.entry_proto_collect
  rw [Around.under_plainId PySem.F.plain_proto_collect _]
  apply wpAny_bind
  refine wpAny_newObj_type (Q := _) ?_
  apply wpAny_pure
  refine ⟨plainId_quiet PySem.F.plain_list_iadd _, codeAny_builtin PySem.F.entry_list_iadd ?_⟩
  rw [Around.under_plainId PySem.F.plain_list_iadd _]
  have run := wpAny_extend_seq (prog := prog) (w := w) (A := A) (s := { s with heap := s.heap.push { cls := .type "list", data := .seq ([] : List Value).toArray } }) (R := fun r s' => r = .ok (.ret (.ref s.heap.objs.size)) ∧ s' = { s with heap := heldH s.heap vs })
    s.heap.objs.size l (.ref s.heap.objs.size) 0 hT bare (Heap.get?_push_of_some _ ho) hc hd ⟨rfl, rfl⟩ (by simpa using lv)
  refine wpAny_mono run (fun f s' z => ?_) (fun e s' z => nomatch z.1)
  match f, z with
  | .done g, ⟨z1, z2⟩ =>
    subst z2
    cases z1
    exact tail
  | .again c', ⟨z1, z2⟩ =>
    refine ⟨z1, codeAny_mono z2 fun r s2 ⟨y1, y2⟩ => ?_⟩
    subst y1 y2
    exact tail
theorem sorted_seq {l : Addr} {T : String} {o : Obj} {n : Nat} {Q : Value → Shared → Prop} (hT : T = "list" ∨ T = "tuple") (ho : s.heap.get? l = some o) (hc : o.cls = .type T) (hd : o.data = .seq vs.toArray n) (e : EachIs R vs bs)
    (er : EachIs (fun v b => ∃ as, Reads s.heap v (enc b) as) vs bs) (hal : AllAlike (bs.map enc)) (hk : Sortable (bs.map enc)) (hL : bs.length ≤ sizeLine) (hu : ∀ b, b ∈ bs → A.units + 2 + (enc b).depth < cLine)
    (h : ∀ (out : List Value) (h' : Heap) (a : Addr) (m : Nat), EachIs R out (bs.mergeSort (dataLe false enc)) → (∀ b u, s.heap.get? b = some u → h'.get? b = some u) → s.heap.objs.size ≤ a → h'.get? a = some (seqObj "list" out.toArray m) → Q (.ref a) { s with heap := h' }) :
    wpAny (model prog w) A (call (.builtin "sorted") [.ref l]) Q Ex s := by
  have lv : vs.length ≤ sizeLine := by rw [e.length]; exact hL
  apply Calls.call_function_entry kind_sorted plain_sorted entry_sorted (args_sorted1 _)
  unfold Builtin.«sorted»
  apply wpAny_bind (m := checkCount "sorted" 1 1 _)
  apply wpAny_pure
  refine wpAny_bind (collect_seq2 hT ho hc hd lv ?_)
  have ext : ∀ b u, s.heap.get? b = some u → (heldH s.heap vs).get? b = some u := fun b u q => by
    unfold heldH
    rw [Heap.get?_update_ne _ _ _ _ (Nat.ne_of_lt (Heap.lt_size q))]
    exact Heap.get?_push_of_some _ q
  have sz := heldH_size s.heap vs
  generalize heldH s.heap vs = h1 at ext sz ⊢
  refine wpAny_bind (wpAny_newList ?_ (by simpa using lv))
  have at1 : (h1.push (seqObj "list" vs.toArray 0)).get? h1.objs.size = some (seqObj "list" vs.toArray 0) := Heap.get?_push_size _ rfl
  have old1 : ∀ b u, s.heap.get? b = some u → b ≠ h1.objs.size ∧ (h1.push (seqObj "list" vs.toArray 0)).get? b = some u := fun b u q => by
    have q1 := ext b u q
    exact ⟨Nat.ne_of_lt (Heap.lt_size q1), Heap.get?_push_of_some _ q1⟩
  have er' : EachIs (fun v b => ∃ as, Reads (sortingHeap (h1.push (seqObj "list" vs.toArray 0)) h1.objs.size vs) v (enc b) as) vs bs :=
    er.mono fun v b ⟨as, r⟩ => ⟨as, PyProof.Rows.Reads.keeps (fun b u q => sortingHeap_old (old1 b u q).1 (old1 b u q).2) r⟩
  refine wpAny_bind (wpAny_holding (wpAny_call_entry slot_list_sort ⟨_, at1, rfl⟩ entry_list_sort (list_sort_vals (κ := dataKind (sortingHeap (h1.push (seqObj "list" vs.toArray 0)) h1.objs.size vs) (bs.map enc)) at1
    (SortsAt.data (s := { s with heap := sortingHeap (h1.push (seqObj "list" vs.toArray 0)) h1.objs.size vs }) (each_map (R := fun v d => ∃ as, Reads (sortingHeap (h1.push (seqObj "list" vs.toArray 0)) h1.objs.size vs) v d as) enc er') hal hk (bound_map hu)) lv ⟨_, rfl, ?_⟩) (args_list_sort _)))
  refine wpAny_pure ⟨_, rfl, ?_⟩
  obtain ⟨m, hm⟩ : ∃ m, (sortedHeap (h1.push (seqObj "list" vs.toArray 0)) h1.objs.size vs (sortVals (dataKind (sortingHeap (h1.push (seqObj "list" vs.toArray 0)) h1.objs.size vs) (bs.map enc)) false vs vs).toArray).get? h1.objs.size = some (seqObj "list" (sortVals (dataKind (sortingHeap (h1.push (seqObj "list" vs.toArray 0)) h1.objs.size vs) (bs.map enc)) false vs vs).toArray m) := sortedHeap_at at1
  refine h _ _ h1.objs.size m (sortVals_data false e er' hal) (fun b u q => ?_) (by omega) hm
  rw [sortedHeap_old (old1 b u q).1 (Heap.lt_size (old1 b u q).2)]
  exact (old1 b u q).2
end
end FL

set_option Elab.async false
set_option linter.all false
set_option maxRecDepth 100000
set_option maxHeartbeats 2000000
/-! FL16: sorted, by values; gcd. -/
namespace FL
open PySem PySem.Spec PyProof.Rows L2
def pyOf (d : D) : PyData := (toPy d).getD .none
def rSD (K : PySem.W.Frag) : List V → Hp → VK → Prop := fun vs H Q => ∃ (a : Addr) (ps : List (V × D)), vs = [.ref a] ∧ (SqL K H a (ps.map (·.1)) ∨ SqT K H a (ps.map (·.1))) ∧ ps.length ≤ sizeLine ∧ (∀ p ∈ ps, Dp K H p.1 (pyOf p.2)) ∧ PySem.W.AllAlike (ps.map fun p => pyOf p.2) ∧ PySem.W.Sortable (ps.map fun p => pyOf p.2) ∧
  (∀ p ∈ ps, (pyOf p.2).depth ≤ 60) ∧ ∀ l, H l = none → Q (.ref l) (upd H l (.lst ((ps.mergeSort (PySem.W.dataLe false fun p => pyOf p.2)).map (·.1))))
theorem each_of_vals : ∀ {ps : List (V × D)} {us : List Value}, Vals (ps.map (·.1)) us → PySem.W.EachIs (fun u p => RelV p.1 u) us ps
  | [], us, r => by cases r; exact .nil
  | p :: ps, us, r => by
    cases r with
    | cons h t => exact .cons h (each_of_vals t)
theorem vals_of_each : ∀ {ps : List (V × D)} {us : List Value}, PySem.W.EachIs (fun u p => RelV p.1 u) us ps → Vals (ps.map (·.1)) us
  | _, _, .nil => .nil
  | _, _, .cons h t => .cons h (vals_of_each t)
theorem each_reads {h : Heap} : ∀ {ps : List (V × D)} {us : List Value}, PySem.W.EachIs (fun u p => RelV p.1 u) us ps → (∀ p ∈ ps, ∀ u, RelV p.1 u → ∃ as, Reads h u (pyOf p.2) as) → PySem.W.EachIs (fun u p => ∃ as, Reads h u (pyOf p.2) as) us ps
  | _, _, .nil, _ => .nil
  | _, _, .cons h t, k => .cons (k _ (by simp) _ h) (each_reads t fun p hp => k p (by simp [hp]))
theorem cr_sortedD {X : Cx} (hu : X.A.units + 64 < cLine) : CallR X (.builtin "sorted") (rSD X.K) := by
  intro pins s σ H vs us Q I r h
  obtain ⟨a, ps, rfl, hs, hz, hdp, hal, hk, hdep, q⟩ := h
  obtain ⟨u, rfl, ru⟩ := vals1 r
  obtain rfl : u = Value.ref a := ru
  obtain ⟨its, T, o, n, hT, rv, ho, hc, hd⟩ : ∃ (its : List Value) (T : String) (o : Obj) (n : Nat), (T = "list" ∨ T = "tuple") ∧ Vals (ps.map (·.1)) its ∧ s.heap.get? a = some o ∧ o.cls = .type T ∧ o.data = .seq its.toArray n := by
    rcases hs with hs | hs
    · obtain ⟨its, rv, hl, _⟩ := I.list hs
      obtain ⟨o, ho, hc, n, hd⟩ := hl.isList
      exact ⟨its, "list", o, n, .inl rfl, rv, ho, hc, hd⟩
    · obtain ⟨its, rv, p, _⟩ := I.tuple hs
      obtain ⟨o, ho, hc, n, hd⟩ := p
      exact ⟨its, "tuple", o, n, .inr rfl, rv, ho, hc, hd⟩
  have e := each_of_vals rv
  refine sorted_seq (bs := ps) (enc := fun p => pyOf p.2) (R := fun u p => RelV p.1 u) hT ho hc hd e (each_reads e fun p hp u ru => Dp.reads I _ _ _ (hdp p hp) ru) hal hk hz (fun p hp => ?_) fun out h' d m eo kp hd' at' => ?_
  · have := hdep p hp
    omega
  · refine ⟨.ref d, _, I.laid (t' := s.toks) (o := .lst ((ps.mergeSort (PySem.W.dataLe false fun p => pyOf p.2)).map (·.1))) kp hd' ⟨?_, out, m, vals_of_each eo, at'⟩, rfl, q d (I.hok.fresh hd')⟩
    rw [List.length_map, List.length_mergeSort]
    exact hz
def okSort (ds : List D) : Bool := decide (ds.length ≤ 1000000) && ds.all (fun d => (toPy d).isSome && decide ((pyOf d).depth ≤ 60)) && ds.all (fun x => ds.all fun y => PySem.W.alike (pyOf x) (pyOf y)) &&
  (ds.all (fun d => match pyOf d with | .tuple (_ :: _) => true | _ => false) || ds.all (fun d => match pyOf d with | .none => false | .tuple _ => false | _ => true))
def sortL (ds : List D) : List D := ds.mergeSort (PySem.W.dataLe false pyOf)
def insL (d : D) : List D → List D
  | [] => [d]
  | x :: r => if PySem.W.dataLe false pyOf d x then d :: x :: r else x :: insL d r
def isortL : List D → List D
  | [] => []
  | x :: r => insL x (isortL r)
theorem insL_at {a : D} : ∀ {l₁ l₂ : List D}, (∀ b, b ∈ l₁ → (!PySem.W.dataLe false pyOf a b) = true) → (∀ c, c ∈ l₂ → PySem.W.dataLe false pyOf a c = true) → insL a (l₁ ++ l₂) = l₁ ++ a :: l₂
  | [], [], _, _ => rfl
  | [], c :: l₂, _, h => by
    show (if PySem.W.dataLe false pyOf a c then _ else _) = _
    rw [if_pos (h c (by simp))]; rfl
  | b :: l₁, l₂, h, h2 => by
    have hb := h b (by simp)
    rw [Bool.not_eq_true'] at hb
    show (if PySem.W.dataLe false pyOf a b then _ else b :: insL a (l₁ ++ l₂)) = _
    rw [if_neg (by rw [hb]; exact Bool.false_ne_true), insL_at (fun c hc => h c (by simp [hc])) h2]; rfl
theorem sortL_eq : ∀ ds : List D, sortL ds = isortL ds
  | [] => by unfold sortL; simp [isortL]
  | a :: r => by
    have tt := PySem.W.sortLe_total (α := D) (PyProof.Rows.listOrd PyProof.Rows.itemOrd) false (fun b => PySem.W.keyToks (pyOf b))
    have tr : ∀ a b c : D, PySem.W.dataLe false pyOf a b = true → PySem.W.dataLe false pyOf b c = true → PySem.W.dataLe false pyOf a c = true := tt.trans
    have to : ∀ a b : D, (PySem.W.dataLe false pyOf a b || PySem.W.dataLe false pyOf b a) = true := fun a b => by
      rcases tt.total a b with h | h
      · have h : PySem.W.dataLe false pyOf a b = true := h
        rw [h]; rfl
      · have h : PySem.W.dataLe false pyOf b a = true := h
        rw [h, Bool.or_true]
    obtain ⟨l₁, l₂, h1, h2, h3⟩ := List.mergeSort_cons tr to a r
    have pw := List.pairwise_mergeSort tr to (a :: r)
    rw [h1] at pw
    show (a :: r).mergeSort _ = insL a (isortL r)
    rw [← sortL_eq r, h1]
    show _ = insL a (r.mergeSort _)
    rw [h2, insL_at h3]
    intro c hc
    exact (List.pairwise_cons.mp (List.pairwise_append.mp pw).2.1).1 c hc
def sortedD : List D → Option D
  | [.lst ds] => if okSort ds then some (.lst (isortL ds)) else none
  | [.tup ds] => if okSort ds then some (.lst (isortL ds)) else none
  | _ => none
theorem RepL.dpv {K : PySem.W.Frag} {G : Hp} : ∀ {vs : List V} {ds : List D}, RepL K G vs ds → (∀ d ∈ ds, (toPy d).isSome = true) → ∀ p ∈ vs.zip ds, Dp K G p.1 (pyOf p.2) ∧ Rep K G p.1 p.2
  | _, _, .nil, _, p, hp => by cases hp
  | _, _, .cons (v := v) (d := d) h1 h2, h, p, hp => by
    rw [List.zip_cons_cons] at hp
    rcases List.mem_cons.mp hp with e | hp
    · subst e
      refine ⟨?_, h1⟩
      have q := h d (by simp)
      unfold pyOf
      cases e : toPy d with
      | none => rw [e] at q; cases q
      | some x => exact Rep.dp h1 e
    · exact RepL.dpv h2 (fun d hd => h d (by simp [hd])) p hp
theorem repL_of {K : PySem.W.Frag} {G : Hp} : ∀ {ps : List (V × D)}, (∀ p ∈ ps, Rep K G p.1 p.2) → RepL K G (ps.map (·.1)) (ps.map (·.2))
  | [], _ => .nil
  | p :: ps, h => .cons (h p (by simp)) (repL_of fun q hq => h q (by simp [hq]))
theorem sort_run {K : PySem.W.Frag} {T : List (Addr × Str)} {F G H : Hp} {σ : L2.St} {δ : De} {a : Addr} {xs : List V} {ds : List D} {Q : VK} (s : S (K, T) F σ G H δ) (hs : SqL K H a xs ∨ SqT K H a xs) (r : RepL K G xs ds) (ok : okSort ds = true)
    (q : ∀ G' H' w, S (K, T) F σ G' H' δ → Same G G' → Rep K G' w (.lst (sortL ds)) → Q w H') : rSD K [.ref a] H Q := by
  unfold okSort at ok
  simp only [Bool.and_eq_true, decide_eq_true_eq, List.all_eq_true, Bool.or_eq_true] at ok
  obtain ⟨⟨⟨k1, k2⟩, k3⟩, k4⟩ := ok
  have hl := r.length
  have e1 : (xs.zip ds).map (·.1) = xs := List.map_fst_zip (by omega)
  have e2 : (xs.zip ds).map (·.2) = ds := List.map_snd_zip (by omega)
  have e3 : (xs.zip ds).map (fun p => pyOf p.2) = ds.map pyOf := by
    conv => rhs; rw [← e2]
    rw [List.map_map]; rfl
  have hd := RepL.dpv r fun d hd => (k2 d hd).1
  refine ⟨a, xs.zip ds, rfl, by rw [e1]; exact hs, ?_, fun p hp => dp_mono s.sub (hd p hp).1, ?_, ?_, fun p hp => ?_, fun l hl => ?_⟩
  · rw [List.length_zip, hl, Nat.min_self, sizeLine_eq]; omega
  · rw [e3]
    intro d hd d' hd'
    obtain ⟨x, hx, rfl⟩ := List.mem_map.mp hd
    obtain ⟨y, hy, rfl⟩ := List.mem_map.mp hd'
    exact k3 x hx y hy
  · rw [e3]
    rcases k4 with k4 | k4
    · refine .inl fun d hd => ?_
      obtain ⟨x, hx, rfl⟩ := List.mem_map.mp hd
      have := k4 x hx
      split at this
      · rename_i y r e; exact ⟨y, r, e⟩
      · cases this
    · refine .inr fun d hd => ?_
      obtain ⟨x, hx, rfl⟩ := List.mem_map.mp hd
      have := k4 x hx
      split at this
      · cases this
      · cases this
      · rename_i e1 e2; exact ⟨e1, fun xs e => e2 xs e⟩
  · exact (k2 p.2 (by rw [← e2]; exact List.mem_map.mpr ⟨p, hp, rfl⟩)).2
  · refine q _ _ _ (s.new hl) (same_upd (s.sub.free hl)) (.lst upd_same ?_)
    have m := repL_of (ps := (xs.zip ds).mergeSort (PySem.W.dataLe false fun p => pyOf p.2)) (K := K) (G := G) fun p hp => (hd p ((List.mergeSort_perm _ _).mem_iff.mp hp)).2
    have e4 : ((xs.zip ds).mergeSort (PySem.W.dataLe false fun p => pyOf p.2)).map (·.2) = sortL ds := by
      unfold sortL
      conv => rhs; rw [← e2]
      exact List.map_mergeSort (f := Prod.snd) (r := PySem.W.dataLe false fun p : V × D => pyOf p.2) (s := PySem.W.dataLe false pyOf) fun a _ b _ => rfl
    rw [e4] at m
    exact m.mono (same_upd (s.sub.free hl))
theorem cb_sorted {K : PySem.W.Frag} : Cb K (rSD K) sortedD := by
  refine ⟨fun T F σ G H δ vs ds d s rv e Q q => ?_⟩
  unfold sortedD at e
  split at e
  · split at e
    · rename_i ok
      cases e
      cases rv with
      | cons h t =>
        cases t
        cases h with
        | lst h1 h2 => exact sort_run s (.inl (.of (s.sub _ _ h1))) h2 ok (by rw [sortL_eq]; exact q)
    · cases e
  · split at e
    · rename_i ok
      cases e
      cases rv with
      | cons h t =>
        cases t
        cases h with
        | tup h1 h2 => exact sort_run s (.inr (seqT s.sub h1)) h2 ok (by rw [sortL_eq]; exact q)
    · cases e
  · cases e
theorem fe_sorted {c : SC} {p pos : Pos} {e : Expr} {f : M (List D)} (hm : c.mg "sorted" = none) (ha : FA c [e] f) (hg : Gb c "sorted" := by rfl) (he : ∀ env : Env, starEach [e] env = (false, eval e env) :: starEach [] env := by intro _; rfl) :
    FE c (.Call (.Name "sorted" p) [e] [] pos) (callB sortedD f) :=
  fe_callB hm (fun X h => by have := cr_sortedD (X := X) h.units; rwa [h.K] at this) cb_sorted ha (by decide +kernel) hg (he := he)
/-! ### gcd -/
def gcdD : List D → Option D
  | [.int a, .int b] => some (.int ((Nat.gcd a.natAbs b.natAbs : Nat) : Int))
  | _ => none
theorem cb_gcd {K : PySem.W.Frag} : Cb K rGcd gcdD := by
  refine ⟨fun T F σ G H δ vs ds d s rv e Q q => ?_⟩
  unfold gcdD at e
  split at e
  · cases e
    cases rv with
    | cons h t =>
      cases t with
      | cons h2 t2 =>
        cases t2
        cases h
        cases h2
        exact ⟨_, _, rfl, q _ _ _ s (Same.refl _) (.int _)⟩
  · cases e
theorem fe_gcd {c : SC} {p pos : Pos} {e : Expr} {es : List Expr} {f : M (List D)} {x : Str} (hm : c.mg x = some (.builtin "math.gcd")) (ha : FA c (e :: es) f) (hg : Gb c x := by rfl) (hdb : (x == ("__debug__" : Str)) = false := by decide)
    (he : ∀ env : Env, starEach (e :: es) env = (false, eval e env) :: starEach es env := by intro _; rfl) (hpl : ∀ env : Env, (backTo pos (starEach es env)).any (·.1) = false := by intro _; rfl) : FE c (.Call (.Name x p) (e :: es) [] pos) (callB gcdD f) := by
  obtain ⟨t, pa, sa⟩ := ha.ex
  exact ⟨_, fun X h => pe_callBfun cr_gcd (show X.env.scope.names.lookup x = _ by rw [h.sc]; exact hg) (by rw [h.mg]; exact hm) (pa X h) hdb (he _) (hpl _), Sp2.cb cb_gcd sa⟩
end FL

set_option Elab.async false
set_option linter.all false
set_option maxRecDepth 100000
set_option maxHeartbeats 2000000
/-! FL17: defaults, while, insert. -/
namespace FL
open PySem PySem.Spec PyProof.Rows L2
/-- a def called with its last parameters left out -/
structure FnDf (P : Program) (w : World) (K : PySem.W.Frag) (mg : Str → Option Value) (base : Heap) (cl : Nat → Addr) (k : Nat) (x : Str) (f : DF) (dvs : List D) : Prop where
  ex : ∃ (a : Addr) (fd : FuncData) (ps : List Str) (ds : List Value) (vs : List V), mg x = some (.ref a) ∧ PySem.W.keepIn K (.ref a) = true ∧ Binds K fd ps ds ∧ Vals vs ds ∧ (∀ G, RepL K G vs dvs) ∧ FnOk P w K mg base (L2.CX P w) k a fd ps (spD K cl f)
theorem fe_callDf {c : SC} {k : Nat} {x : Str} {f : DF} {dvs : List D} {p pos : Pos} {e : Expr} {es : List Expr} {fa : M (List D)} (F : FnDf c.P c.w c.K c.mg c.base c.cl k x f dvs) (ha : FA c (e :: es) fa) (hk : Nat.ble k c.k = true := by rfl)
    (hg : Gb c x := by rfl) (hdb : (x == ("__debug__" : Str)) = false := by decide) (he : ∀ env : Env, starEach (e :: es) env = (false, eval e env) :: starEach es env := by intro _; rfl) (hpl : ∀ env : Env, (backTo pos (starEach es env)).any (·.1) = false := by intro _; rfl) :
    FE c (.Call (.Name x p) (e :: es) [] pos) (callM (fun l => f (l ++ dvs)) fa) := by
  obtain ⟨t, pa, sa⟩ := ha.ex
  obtain ⟨a, fd, ps, ds', vs', h1, h2, h3, hv, hr, h4⟩ := F.ex
  refine ⟨tCallSD (spD c.K c.cl f) vs' (WE fun cls d _ H => c.E cls d H) t, fun X h => ?_, ?_⟩
  · have h4' : FnOk X.prog X.w X.K X.mg X.base (L2.CX X.prog X.w) k a fd ps (spD c.K c.cl f) := by rw [h.P, h.w, h.K, h.mg, h.base]; exact h4
    exact pe_callSD h4' (h.room.mono (Nat.le_of_ble_eq_true hk)) (show X.env.scope.names.lookup x = _ by rw [h.sc]; exact hg) (by rw [h.mg]; exact h1) (by rw [h.K]; exact h2) (by rw [h.K]; exact h3) hv (fun σ => passAt h.tk σ) (pa X h) hdb (he _) (hpl _)
  · intro F σ G H δ r s e Q p
    refine sa.step s e p fun G1 H1 δ1 vs ds s1 g1 rx e1 p1 => ?_
    unfold resM at e1
    dsimp only at e1
    cases h : f (ds ++ dvs) with
    | none => rw [h] at e1; cases e1
    | some rr =>
      rw [h] at e1
      have bs : ∀ b o, besides G1 H1 b = some o → G1 b = none ∧ H1 b = some o := fun b o e => by
        unfold besides at e
        split at e
        · cases e
        · rename_i q; exact ⟨q, e⟩
      refine ⟨besides G1 H1, G1, ds ++ dvs, rr, s1.sub, fun b o e => (bs b o e).2, fun b o e => (bs b o e).1, s1.ntg, rx.append (hr G1), h, ?_⟩
      cases rr with
      | ret d =>
        cases e1
        exact fun G' H' v g' h' f' d' n' rv => p1 G' H' v (s1.after g' h' f' d' n') g' rv
      | ex k =>
        cases e1
        exact fun G' H' g' h' f' => p1 G' H' g' h' fun b o e => f' _ _ (by unfold besides; rw [s1.dis _ _ e]; exact s1.frm _ _ e)
/-! ### while -/
def whileF (t : M Bool) (f : Fo) : Nat → Fo
  | 0 => fun _ => none
  | n + 1 => fun δ => match t δ with
    | none => none
    | some (.ex k) => some (.ex k)
    | some (.ok false δ1) => some (.nx δ1)
    | some (.ok true δ1) => match f δ1 with
      | none => none
      | some (.nx δ2) => whileF t f n δ2
      | some (.ct δ2) => whileF t f n δ2
      | some (.bk δ2) => some (.nx δ2)
      | some (.rt d) => some (.rt d)
      | some (.ex k) => some (.ex k)
theorem fs_while (n : Nat) {c : SC} {e : Expr} {body : List Stmt} {t : M Bool} {f : Fo} {pos : Pos} (hc : FT c e t) (hb : FS c body f) : FS1 c (.While e body [] pos) (whileF t f n) := by
  obtain ⟨tt, pt, st⟩ := hc.ex
  obtain ⟨tb, pb, sb⟩ := hb.ex
  refine ⟨tWhile tt tb, fun X h => ps_while h.po (pt X h) (pb X h), fun F σ G H δ o s e Dn p => ?_⟩
  refine ⟨fun m σ' H' => ∃ G' δ', Same G G' ∧ S c.κ F σ' G' H' δ' ∧ whileF t f m δ' = some o, ⟨n, G, δ, Same.refl _, s, e⟩, ?_⟩
  rintro m σ1 H1 ⟨G1, δ1, g1, s1, e1⟩
  cases m with
  | zero => cases e1
  | succ m =>
    rw [whileF] at e1
    dsimp only at e1
    cases ht : t δ1 with
    | none => rw [ht] at e1; cases e1
    | some r =>
      rw [ht] at e1
      refine st F σ1 G1 H1 δ1 r s1 ht _ ?_
      cases r with
      | ex k => cases e1; exact fun G' H' g' => p G' H' (g1.trans g')
      | ok b δ2 =>
        intro G2 H2 v s2 g2 rv
        have ev : v = b := rv
        subst ev
        cases v with
        | false =>
          rw [if_neg Bool.false_ne_true]
          cases e1
          exact p σ1 G2 H2 s2 (g1.trans g2)
        | true =>
          rw [if_pos rfl]
          dsimp only at e1
          refine ⟨fun σ' H' => ∃ G' δ', Same G G' ∧ S c.κ F σ' G' H' δ' ∧ whileF t f m δ' = some o, fun σ' H' ⟨G', δ', z1, z2, z3⟩ => ⟨m, Nat.lt_succ_self _, G', δ', z1, z2, z3⟩, ?_⟩
          cases hf : f δ2 with
          | none => rw [hf] at e1; cases e1
          | some o1 =>
            rw [hf] at e1
            refine sb F σ1 G2 H2 δ2 o1 s2 hf _ ?_
            have g12 := g1.trans g2
            cases o1 with
            | nx δ4 => exact fun σ' G' H' s' g' => ⟨G', δ4, g12.trans g', s', e1⟩
            | ct δ4 => exact fun σ' G' H' s' g' => ⟨G', δ4, g12.trans g', s', e1⟩
            | bk δ4 => cases e1; exact fun σ' G' H' s' g' => p σ' G' H' s' (g12.trans g')
            | rt d => cases e1; exact fun σ' G' H' δ' v s' g' rv => p σ' G' H' δ' v s' (g12.trans g') rv
            | ex k => cases e1; exact fun G' H' g' => p G' H' (g12.trans g')
/-! ### x.insert(k, e) -/
def insS (i : Nat) (g f : M D) : Fo := fun δ => match ownAt δ i with
  | none => none
  | some _ => thenS g (fun k => thenS f fun d δ => match k, ownAt δ i with
    | .int k, some xs => if 0 ≤ k ∧ k < 1000000 ∧ xs.length < 1000000 then some (.nx (δ.set i (.own (xs.take k.toNat ++ [d] ++ xs.drop k.toNat)))) else none
    | _, _ => none) δ
def rIns : V → List V → Hp → VK → Prop := fun z us H Q => ∃ (a : Addr) (ys : List V) (k : Int) (u : V), z = .ref a ∧ us = [.int k, u] ∧ H a = some (.lst ys) ∧ ys.length < sizeLine ∧
  0 ≤ k ∧ k < 2 ^ 63 ∧ Q .non (upd H a (.lst (ys.take k.toNat ++ [u] ++ ys.drop k.toNat)))
theorem fs_insert (i : Nat) {c : SC} {x : Str} {k e : Expr} {g f : M D} {p1 p2 p3 pos : Pos} (hk : FE c k g) (he : FE c e f) (hN : c.N[i]? = some x := by rfl) (hv : Vis c.sc x := by first | exact Or.inl rfl | exact Or.inr (Or.inl rfl) | exact Or.inr (Or.inr rfl))
    (hd : (x == ("__debug__" : Str)) = false := by decide) (hcd : (x == ("__classdict__" : Str)) = false := by decide)
    (h1 : ∀ env : Env, starEach [k, e] env = (false, eval k env) :: starEach [e] env := by intro _; rfl) (h2 : ∀ env : Env, starEach [e] env = (false, eval e env) :: starEach [] env := by intro _; rfl) (hpl : ∀ env : Env, (backTo p3 (starEach [e] env)).any (·.1) = false := by intro _; rfl)
    (hb : ∀ env : Env, attributeBase (.Name x p1) "insert" env (eval (.Name x p1) env) = eval (.Name x p1) env := by intro _; rfl)
    (hfew : ∀ env : Env, ((backTo p3 (starEach [k, e] env)).all (fun x => !x.1) && (backToKw p3 (keywordEach [] env)).all (fun x => x.1.isSome) && decide (([k, e] : List Expr).length + ([] : List Keyword).length + (if ([] : List Keyword).isEmpty then 0 else 1) < 30)) = true := by intro _; rfl)
    (hl : (p2.endLine == p3.line) = true := by rfl)
    (hs : ∀ env : Env, env.scope = c.sc → swapsWith (.Call (.Attribute (.Name x p1) "insert" p2) [k, e] [] p3) none pos.line env = pure false := by intro _ _; rfl) :
    FS1 c (.Expr (.Call (.Attribute (.Name x p1) "insert" p2) [k, e] [] p3) pos) (insS i g f) := by
  obtain ⟨tk, pk, sk⟩ := hk.ex
  obtain ⟨t, pa, sa⟩ := he.ex
  refine ⟨tDrop (tBM c.K "list" rIns (tVar i) (tCons tk (tCons t tNil))), fun X h => ?_, fun F σ G H δ o s e Dn p => ?_⟩
  · have q := pe_bm (X := X) (r := rIns) PySem.F.plainAttrs_list PySem.F.slot_list_insert PySem.F.type_list_insert mt_insert (pe_var (i := i) (x := x) (pos := p1) (by rw [h.N]; exact hN) (by rw [h.sc]; exact hv) hd hcd) (pa_cons (pk X h) (pa_cons (pa X h) pa_nil (h2 _)) (h1 _)) (hb _) (hfew _) hl (h1 _) (hpl _)
    rw [h.K] at q
    exact ps_expr q (hs _ h.sc)
  · unfold insS at e
    cases h0 : ownAt δ i with
    | none => rw [h0] at e; cases e
    | some xs0 =>
      rw [h0] at e
      dsimp only at e
      obtain ⟨q, vs, e1, e2, e3, e4, e5⟩ := s.own i xs0 (ownAt_some h0)
      refine ⟨_, e1, .inl ⟨rfl, _, .inl (.inl e2)⟩, ?_⟩
      refine sk.stepS s e p fun G1 H1 δ1 v1 d1 s1 g1 rx1 e1' p1 => ?_
      refine sa.stepS s1 e1' p1 fun G2 H2 δ2 v d s2 g2 rx e2' p2 => ?_
      split at e2'
      · rename_i kk xs hxs
        split at e2'
        · rename_i hl
          cases e2'
          cases rx1
          obtain ⟨q', ws, f1, f2, f3, f4, f5⟩ := s2.own i xs (ownAt_some hxs)
          rw [e1] at f1
          cases f1
          refine ⟨_, ws, kk, v, rfl, rfl, f2, by rw [f3.length]; exact lt6 hl.2.2, hl.1, by omega, ?_⟩
          exact p2 σ G2 _ (s2.setOwn (ownAt_some hxs) e1 (((f3.take _).append (.cons rx .nil)).append (f3.drop _))) (Same.refl _)
        · cases e2'
      · cases e2'
end FL

set_option Elab.async false
set_option linter.all false
set_option maxRecDepth 100000
set_option maxHeartbeats 2000000
/-! FL18: reading a list of one's own. -/
namespace FL
open PySem PySem.Spec PyProof.Rows L2
section
variable {c : SC}
def lenO (i : Nat) : M D := fun δ => match ownAt δ i with
  | some xs => some (.ok (.int xs.length) δ)
  | none => none
theorem fe_lenO (i : Nat) {x : Str} {p p1 pos : Pos} (hm : c.mg "len" = none) (hN : c.N[i]? = some x := by rfl) (hv : Vis c.sc x := by first | exact Or.inl rfl | exact Or.inr (Or.inl rfl) | exact Or.inr (Or.inr rfl)) (hg : Gb c "len" := by rfl)
    (hd : (x == ("__debug__" : Str)) = false := by decide) (hcd : (x == ("__classdict__" : Str)) = false := by decide)
    (he : ∀ env : Env, starEach [.Name x p1] env = (false, eval (.Name x p1) env) :: starEach [] env := by intro _; rfl) (hpl : ∀ env : Env, (backTo pos (starEach [] env)).any (·.1) = false := by intro _; rfl) :
    FE c (.Call (.Name "len" p) [.Name x p1] [] pos) (lenO i) := by
  refine ⟨tCB (fun xs H Q => (∃ p ys, xs = [V.ref p] ∧ (SqL c.K H p ys ∨ SqT c.K H p ys) ∧ Q (.int ys.length) H) ∨ (∃ z, xs = [V.str z] ∧ z.length ≤ sizeLine ∧ Q (.int z.length) H)) (tCons (tVar i) tNil), fun X h => ?_, fun F σ G H δ r s e Q p => ?_⟩
  · have q := (call_len_seq (X := X)).or call_len_str
    rw [h.K] at q
    exact pe_callB q (show X.env.scope.names.lookup ("len" : Str) = _ by rw [h.sc]; exact hg) (by rw [h.mg]; exact hm) PySem.boot_len
      (pa_cons (pe_var (i := i) (x := x) (pos := p1) (by rw [h.N]; exact hN) (by rw [h.sc]; exact hv) hd hcd) pa_nil (he _)) (by decide) (by decide) (he _) (hpl _)
  · unfold lenO at e
    cases h0 : ownAt δ i with
    | none => rw [h0] at e; cases e
    | some xs =>
      rw [h0] at e
      cases e
      obtain ⟨q, vs, e1, e2, e3, e4, e5⟩ := s.own i xs (ownAt_some h0)
      refine ⟨_, e1, .inl ⟨q, vs, rfl, .inl (.inl (.inl e2)), ?_⟩⟩
      rw [e3.length]
      exact p G H _ s (Same.refl _) (.int _)
def ixO (i : Nat) (g : M D) : M D := fun δ => match ownAt δ i with
  | none => none
  | some _ => FL.bindM g (fun k δ => match k, ownAt δ i with
    | .int k, some xs => match L2.atI xs k with
      | some d => some (.ok d δ)
      | none => none
    | _, _ => none) δ
theorem fe_ixO (i : Nat) {x : Str} {b : Expr} {fb : M D} {p1 pos : Pos} (hb : FE c b fb) (hN : c.N[i]? = some x := by rfl) (hv : Vis c.sc x := by first | exact Or.inl rfl | exact Or.inr (Or.inl rfl) | exact Or.inr (Or.inr rfl))
    (hd : (x == ("__debug__" : Str)) = false := by decide) (hcd : (x == ("__classdict__" : Str)) = false := by decide) (hs : PlainIx b := by intro _ _; rfl) : FE c (.Subscript (.Name x p1) b pos) (ixO i fb) := by
  obtain ⟨tb, pb, sb⟩ := hb.ex
  refine ⟨tOp (rIx c.K) (tVar i) tb, fun X h => ?_, fun F σ G H δ r s e Q p => ?_⟩
  · have := pe_ix (X := X) (pos := pos) ix_seq (pe_var (i := i) (x := x) (pos := p1) (by rw [h.N]; exact hN) (by rw [h.sc]; exact hv) hd hcd) (pb X h) hs
    rwa [h.K] at this
  · unfold ixO at e
    cases h0 : ownAt δ i with
    | none => rw [h0] at e; cases e
    | some xs =>
      rw [h0] at e
      dsimp only at e
      obtain ⟨q, vs, e1, e2, e3, e4, e5⟩ := s.own i xs (ownAt_some h0)
      refine ⟨_, e1, ?_⟩
      refine sb.step s e p fun G1 H1 δ1 v d s1 g1 rx e1' p1 => ?_
      split at e1'
      · rename_i k ys hy
        obtain ⟨q', ws, f1, f2, f3, f4, f5⟩ := s1.own i ys (ownAt_some hy)
        rw [e1] at f1
        cases f1
        split at e1'
        · rename_i d ha
          cases e1'
          cases rx
          obtain ⟨w, w1, w2⟩ := f3.atI ha
          exact .inl ⟨_, _, k, w, rfl, rfl, .inl (.inl f2), w1, p1 G1 H1 _ s1 (Same.refl _) w2⟩
        · cases e1'
      · cases e1'
end
end FL

set_option Elab.async false
set_option linter.all false
set_option maxRecDepth 100000
set_option maxHeartbeats 2000000
/-! FL19: defs with defaults; lists of kept lambdas. -/
namespace FL
open PySem PySem.Spec PyProof.Rows L2
theorem fnOkD {P : Program} {w : World} {K : PySem.W.Frag} {mg : Str → Option Value} {base : Heap} {cl : Nat → Addr} {k : Nat} {x : Str} {params : Arguments} {bd : List Stmt} {scope : Scope} {dvs : List V} {a : Addr} {fd : FuncData} {N ps : List Str} {f : Fo} (Fn : FunD K x x params bd scope dvs [] a fd) (Sc : FnScope N ps scope) (hN : ps.length ≤ N.length)
    (body : ∀ E : XK, FS ⟨P, w, K, mg, base, N, scope, k, cl, E, fun _ => true, [], .none, ""⟩ bd f) : FnOk P w K mg base (L2.CX P w) (k + 1) a fd ps (spD K cl (defF N ps.length f)) := by
  refine Fn.ok Sc (fun vs H Q E h => ?_) (fun cdv A outer s H vs Q E hr h => ?_)
  · obtain ⟨F, G, ds, r, _, _, _, _, h1, h2, _⟩ := h
    unfold defF at h2
    split at h2
    · rename_i q; rw [h1.length, q]
    · cases h2
  · obtain ⟨F, G, ds, r, sub, frm, dis, ng, h1, h2, post⟩ := h
    unfold defF at h2
    split at h2
    · rename_i q
      obtain ⟨t, pt, sp⟩ := (body E).ex
      refine ⟨t, pt _ ⟨rfl, rfl, rfl, rfl, rfl, rfl, rfl, rfl, hr, takes_of rfl rfl rfl rfl, fun _ _ => Or.inl rfl, passes_of rfl, Or.inl rfl⟩, ?_⟩
      have s0 : S (K, []) F (L2.start N vs) G H (startD N ds) := S.start sub frm dis ng h1 (by omega)
      cases ho : f (startD N ds) with
      | none => rw [ho] at h2; cases h2
      | some o =>
        rw [ho] at h2
        refine sp F _ G H _ o s0 ho _ ?_
        cases o with
        | rt d => cases h2; exact fun σ' G' H' δ' v s' g' rv => post G' H' v g' s'.sub s'.frm s'.dis s'.ntg rv
        | nx δ' => cases h2; exact fun σ' G' H' s' g' => post G' H' _ g' s'.sub s'.frm s'.dis s'.ntg .non
        | ex c => cases h2; exact fun G' H' g' h' f' => post G' H' g' h' f'
        | bk δ' => cases h2
        | ct δ' => cases h2
    · cases h2
/-- one default, an int: the def called with all, and with one less -/
theorem funD_mk {K : PySem.W.Frag} {x : Str} {st : Stmt} {a T : Addr} {oc : Value} {od an uo : Option Addr} {sl us : Array (Option Value)} {kV doc pm cdv ct uc : Value} {ui : Array Value} {un : Nat} {dvs : List V} (hd : dvs ≠ [])
    (l : K.lookup a = some ⟨oc, od, .func (PySem.W.fnOf x x (defArgs st) (defBody st) (defScope st) (.ref T) kV doc pm an cdv ct), sl⟩) (c : PySem.W.codeIn K cdv x = true) (k : PySem.W.keepIn K (.ref a) = true) (t : K.lookup T = some ⟨uc, uo, .seq ui un, us⟩) (v : Vals dvs ui.toList) :
    FunD K x x (defArgs st) (defBody st) (defScope st) dvs [] a (PySem.W.fnOf x x (defArgs st) (defBody st) (defScope st) (.ref T) kV doc pm an cdv ct) :=
  ⟨⟨oc, od, .ref T, kV, doc, pm, an, cdv, ct, sl, rfl, l, c, .inr ⟨hd, T, _, ui.toList, un, rfl, t, by simp, v⟩, .inl rfl⟩, k⟩
theorem vals_nil {ds : List Value} (h : Vals [] ds) : ds = [] := by cases h; rfl
/-! ### the law's kept lambdas -/
def asgE : Stmt → Expr | .Assign _ e _ => e | _ => .Constant .none 0 ⟨0, 0, 0, 0⟩
def eltE (e : Expr) (k : Nat) : Expr := match e with | .List es _ => es.getD k e | .Tuple es _ _ => es.getD k e | _ => e
def mkLam (q : Str) (ix : Nat) : Expr → Lam | .Lambda a b s _ => ⟨a, b, s, q, ix⟩ | e => ⟨defArgs (.Pass ⟨0, 0, 0, 0⟩), e, defScope (.Pass ⟨0, 0, 0, 0⟩), q, ix⟩
theorem lk_nil {c : SC} {k : Nat} : ∀ x ∈ ([] : List (Lam × M D)), LamOk c k x.1 x.2 := fun _ h => nomatch h
theorem lk_cons {c : SC} {k : Nat} {L : Lam} {f : M D} {lt : List (Lam × M D)} (h : LamOk c k L f) (t : ∀ x ∈ lt, LamOk c k x.1 x.2) : ∀ x ∈ (L, f) :: lt, LamOk c k x.1 x.2 := fun x hx => by
  rcases List.mem_cons.mp hx with e | hx
  · subst e; exact h
  · exact t x hx
end FL

set_option Elab.async false
set_option linter.all false
set_option maxRecDepth 100000
set_option maxHeartbeats 2000000
/-! FL20: comprehensions with two fors. -/
namespace FL
open PySem PySem.Spec PyProof.Rows L2
/-- the outer for; inn: what the inner one makes of each item -/
def lcO (vs : List Nat) (bd : D → De → Option De) (tt : M Bool) (inn : M (List D)) : List D → M (List D)
  | [], δ => some (.ok [] δ)
  | x :: r, δ => if noOwn δ vs then match bd x (wipeD δ vs) with
    | none => none
    | some δ1 => match tt δ1 with
      | some (.ok true δ2) => match inn δ2 with
        | some (.ok ys δ3) => match lcO vs bd tt inn r (restD δ δ3 vs) with
          | some (.ok zs δ4) => some (.ok (ys ++ zs) δ4)
          | _ => none
        | _ => none
      | some (.ok false δ2) => lcO vs bd tt inn r (restD δ δ2 vs)
      | _ => none
    else none
def lcM2 (vs : List Nat) (bd : D → De → Option De) (tt : M Bool) (items1 : M (List D)) (vs1 : List Nat) (bd1 : D → De → Option De) (tt1 : M Bool) (fe : M D) (items : M (List D)) : M D :=
  bindM items fun ds => bindM (lcO vs bd tt (bindM items1 fun es => lcD vs1 bd1 tt1 fe es) ds) fun ys => if ys.length < 1000000 then pureM (.lst ys) else fun _ => none
theorem bindM_none {α β : Type} {m : M α} {k : α → M β} {δ : De} (h : m δ = none) : bindM m k δ = none := by unfold bindM; rw [h]
theorem lcD_noex {vs : List Nat} {bd : D → De → Option De} {tt : M Bool} {fe : M D} : ∀ (ds : List D) (δ : De) (k : Nat), lcD vs bd tt fe ds δ ≠ some (.ex k)
  | [], δ, k, h => by cases h
  | x :: r, δ, k, h => by
    rw [lcD] at h
    repeat' split at h
    all_goals first | cases h | exact lcD_noex r _ _ h
theorem lcO_noex {vs : List Nat} {bd : D → De → Option De} {tt : M Bool} {inn : M (List D)} : ∀ (ds : List D) (δ : De) (k : Nat), lcO vs bd tt inn ds δ ≠ some (.ex k)
  | [], δ, k, h => by cases h
  | x :: r, δ, k, h => by
    rw [lcO] at h
    repeat' split at h
    all_goals first | cases h | exact lcO_noex r _ _ h
theorem sp_lc2 {K : PySem.W.Frag} {T : List (Addr × PySem.Str)} {cl : Nat → Addr} {E : XK} {wi wi1 : TI} {g g1 : TG} {t t1 : TT} {te : TE} {items items1 : M (List D)} {is vs is1 vs1 : List Nat} {bd bd1 : D → De → Option De} {tt tt1 : M Bool} {fe : M D}
    (si : Sp2 (K, T) cl E (Walks K) wi items) (sg : ∀ F σ G H δ v d δ', S (K, T) F σ G H δ → Rep K G v d → bd d δ = some δ' → ∀ Q, (∀ σ', S (K, T) F σ' G H δ' → Agr is σ σ' → Q σ' H) → g v σ H Q)
    (st : Sp2 (K, T) cl (fun _ _ _ => False) RepB t tt) (his : ∀ i ∈ is, i ∈ vs)
    (si1 : Sp2 (K, T) cl (fun _ _ _ => False) (Walks K) wi1 items1) (sg1 : ∀ F σ G H δ v d δ', S (K, T) F σ G H δ → Rep K G v d → bd1 d δ = some δ' → ∀ Q, (∀ σ', S (K, T) F σ' G H δ' → Agr is1 σ σ' → Q σ' H) → g1 v σ H Q)
    (st1 : Sp2 (K, T) cl (fun _ _ _ => False) RepB t1 tt1) (his1 : ∀ i ∈ is1, i ∈ vs1) (se : Sp2 (K, T) cl (fun _ _ _ => False) (Rep K) te fe) :
    Sp2 (K, T) cl E (Rep K) (tLc2 wi g t wi1 g1 t1 te vs vs1) (lcM2 vs bd tt items1 vs1 bd1 tt1 fe items) := by
  intro F σ G H δ r s e Q p
  refine si.step s e p fun G1 H1 δ1 J ds s1 g1' W e1 p1 => ?_
  intro D hD
  have fD : F D = none := s1.frm.free hD
  cases hlc : lcO vs bd tt (bindM items1 fun es => lcD vs1 bd1 tt1 fe es) ds δ1 with
  | none => rw [bindM_none hlc] at e1; cases e1
  | some rr =>
    cases rr with
    | ex k => exact absurd hlc (lcO_noex _ _ _)
    | ok ysA δf =>
      rw [bindM_ok hlc] at e1
      split at e1
      · rename_i hlen
        cases e1
        refine ⟨fun i m H => m = ds.length - i ∧ i ≤ ds.length ∧ ∃ G2 δ2 accV accD ys, Same G1 G2 ∧ S (K, T) (upd F D (.lst accV)) σ G2 H δ2 ∧ RepL K G2 accV accD ∧ lcO vs bd tt (bindM items1 fun es => lcD vs1 bd1 tt1 fe es) (ds.drop i) δ2 = some (.ok ys δf) ∧ ysA = accD ++ ys,
          ⟨ds.length, by simp, Nat.zero_le _, G1, δ1, [], [], ysA, Same.refl _, s1.enter hD, .nil, hlc, rfl⟩, ?_⟩
        rintro i m H2 ⟨rfl, hi, G2, δ2, accV, accD, ys, g2, s2, ra, e2, ey⟩
        by_cases hl : i < ds.length
        · have hd : ds[i]? = some ds[i] := List.getElem?_eq_getElem hl
          rw [List.drop_eq_getElem_cons hl, lcO] at e2
          split at e2
          · rename_i hno
            refine .inr ⟨W.go _ _ σ G2 H2 δ2 i g2 s2 hl, fun H' => ∃ G5 δ5 accV' accD' ys', Same G1 G5 ∧ S (K, T) (upd F D (.lst accV')) σ G5 H' δ5 ∧ RepL K G5 accV' accD' ∧ lcO vs bd tt (bindM items1 fun es => lcD vs1 bd1 tt1 fe es) (ds.drop (i + 1)) δ5 = some (.ok ys' δf) ∧ ysA = accD' ++ ys',
              fun H' z => ⟨ds.length - (i + 1), by omega, rfl, hl, z⟩, fun x H3 hy => ?_⟩
            obtain ⟨G3, s3, g3, rx⟩ := W.yld _ _ (wipe σ vs) G2 H2 (wipeD δ2 vs) i x H3 _ g2 (s2.wipes vs) hy hd
            cases hbd : bd ds[i] (wipeD δ2 vs) with
            | none => rw [hbd] at e2; cases e2
            | some δ3 =>
              rw [hbd] at e2
              dsimp only at e2
              refine sg _ (wipe σ vs) G3 H3 _ x _ δ3 s3 rx hbd _ fun σ3 s4 ag => ⟨wipe_agr ag his, ?_⟩
              have g23 : Same G2 G3 := g3
              have agr3 : ∀ j, j ∉ vs → σ3[j]? = σ[j]? := fun j hj => by
                rw [ag.2 j fun z => hj (his j z), wipe_get, if_neg hj]
              have len3 : σ3.length = σ.length := ag.1.trans (wipe_length _ _)
              cases ht : tt δ3 with
              | none => rw [ht] at e2; cases e2
              | some rt =>
                rw [ht] at e2
                cases rt with
                | ex k => cases e2
                | ok b δ4 =>
                  refine st _ σ3 G3 H3 δ3 _ s4 ht _ fun G4 H4 b' s5 g4 rb => ?_
                  have eb : b' = b := rb
                  subst eb
                  cases b' with
                  | false =>
                    rw [if_neg Bool.false_ne_true]
                    dsimp only at e2
                    exact ⟨G4, _, accV, accD, ys, g2.trans (g23.trans g4), s5.unblock s2 (g23.trans g4) agr3 len3 hno, ra.mono (g23.trans g4), e2, ey⟩
                  | true =>
                    rw [if_pos rfl]
                    dsimp only at e2
                    cases hin : (bindM items1 fun es => lcD vs1 bd1 tt1 fe es) δ4 with
                    | none => rw [hin] at e2; cases e2
                    | some ri =>
                      rw [hin] at e2
                      cases ri with
                      | ex k => cases e2
                      | ok ysI δ7 =>
                        dsimp only at e2
                        cases hr : lcO vs bd tt (bindM items1 fun es => lcD vs1 bd1 tt1 fe es) (ds.drop (i + 1)) (restD δ2 δ7 vs) with
                        | none => rw [hr] at e2; cases e2
                        | some rr2 =>
                          rw [hr] at e2
                          cases rr2 with
                          | ex k => cases e2
                          | ok zs δ8 =>
                            cases e2
                            -- the inner for
                            cases hi1 : items1 δ4 with
                            | none => rw [bindM_none hi1] at hin; cases hin
                            | some rj =>
                              cases rj with
                              | ex k => rw [bindM_ex hi1] at hin; cases hin
                              | ok es δ5 =>
                                rw [bindM_ok hi1] at hin
                                refine si1 _ σ3 G4 H4 δ4 _ s5 hi1 _ fun G5 H5 J1 s6 g5 W1 => ?_
                                refine ⟨fun j k H => k = es.length - j ∧ j ≤ es.length ∧ ∃ G6 δ6 bV bD ys, Same G5 G6 ∧ S (K, T) (upd F D (.lst bV)) σ3 G6 H δ6 ∧ RepL K G6 bV bD ∧ lcD vs1 bd1 tt1 fe (es.drop j) δ6 = some (.ok ys δ7) ∧ accD ++ ysI = bD ++ ys,
                                  ⟨es.length, by simp, Nat.zero_le _, G5, δ5, accV, accD, ysI, Same.refl _, s6, ra.mono (g23.trans (g4.trans g5)), hin, rfl⟩, ?_⟩
                                rintro j k H6 ⟨rfl, hj, G6, δ6, bV, bD, yz, g6, s7, rb, e6, ez⟩
                                by_cases hjl : j < es.length
                                · have hde : es[j]? = some es[j] := List.getElem?_eq_getElem hjl
                                  rw [List.drop_eq_getElem_cons hjl, lcD] at e6
                                  split at e6
                                  · rename_i hno1
                                    refine .inr ⟨W1.go _ _ σ3 G6 H6 δ6 j g6 s7 hjl, fun H' => ∃ G9 δ9 bV' bD' ys', Same G5 G9 ∧ S (K, T) (upd F D (.lst bV')) σ3 G9 H' δ9 ∧ RepL K G9 bV' bD' ∧ lcD vs1 bd1 tt1 fe (es.drop (j + 1)) δ9 = some (.ok ys' δ7) ∧ accD ++ ysI = bD' ++ ys',
                                      fun H' z => ⟨es.length - (j + 1), by omega, rfl, hjl, z⟩, fun u H7 hyu => ?_⟩
                                    obtain ⟨G7, s8, g7, ru⟩ := W1.yld _ _ (wipe σ3 vs1) G6 H6 (wipeD δ6 vs1) j u H7 _ g6 (s7.wipes vs1) hyu hde
                                    cases hb1 : bd1 es[j] (wipeD δ6 vs1) with
                                    | none => rw [hb1] at e6; cases e6
                                    | some δa =>
                                      rw [hb1] at e6
                                      dsimp only at e6
                                      refine sg1 _ (wipe σ3 vs1) G7 H7 _ u _ δa s8 ru hb1 _ fun σ4 s9 ag1 => ⟨wipe_agr ag1 his1, ?_⟩
                                      have agr4 : ∀ j, j ∉ vs1 → σ4[j]? = σ3[j]? := fun j hj => by
                                        rw [ag1.2 j fun z => hj (his1 j z), wipe_get, if_neg hj]
                                      have len4 : σ4.length = σ3.length := ag1.1.trans (wipe_length _ _)
                                      cases ht1 : tt1 δa with
                                      | none => rw [ht1] at e6; cases e6
                                      | some ru1 =>
                                        rw [ht1] at e6
                                        cases ru1 with
                                        | ex k => cases e6
                                        | ok b1 δb =>
                                          refine st1 _ σ4 G7 H7 δa _ s9 ht1 _ fun G8 H8 b2 s10 g8 rb2 => ?_
                                          have eb2 : b2 = b1 := rb2
                                          subst eb2
                                          cases b2 with
                                          | false =>
                                            rw [if_neg Bool.false_ne_true]
                                            dsimp only at e6
                                            exact ⟨G8, _, bV, bD, yz, g6.trans (g7.trans g8), s10.unblock s7 (g7.trans g8) agr4 len4 hno1, rb.mono (g7.trans g8), e6, ez⟩
                                          | true =>
                                            rw [if_pos rfl]
                                            dsimp only at e6
                                            cases hf : fe δb with
                                            | none => rw [hf] at e6; cases e6
                                            | some rf =>
                                              rw [hf] at e6
                                              cases rf with
                                              | ex k => cases e6
                                              | ok y δc =>
                                                dsimp only at e6
                                                refine se _ σ4 G8 H8 δb _ s10 hf _ fun G9 H9 v s11 g9 ry => ?_
                                                have g69 : Same G6 G9 := g7.trans (g8.trans g9)
                                                cases hr1 : lcD vs1 bd1 tt1 fe (es.drop (j + 1)) (restD δ6 δc vs1) with
                                                | none => rw [hr1] at e6; cases e6
                                                | some rr3 =>
                                                  rw [hr1] at e6
                                                  cases rr3 with
                                                  | ex k => cases e6
                                                  | ok ys2 δd =>
                                                    cases e6
                                                    refine ⟨bV, s11.frm D _ upd_same, ?_, G9, restD δ6 δc vs1, bV ++ [v], bD ++ [y], ys2, g6.trans g69, (s11.unblock s7 g69 agr4 len4 hno1).relist, (rb.mono g69).append (.cons ry .nil), hr1, by rw [ez, List.append_assoc]; rfl⟩
                                                    have : ysA.length = (bD ++ y :: ys2).length + zs.length := by rw [← ez, ey]; simp [Nat.add_assoc]
                                                    rw [List.length_append, List.length_cons] at this
                                                    rw [rb.length, sizeLine_eq]
                                                    omega
                                  · cases e6
                                · have ej : j = es.length := by omega
                                  subst ej
                                  rw [List.drop_length] at e6
                                  cases e6
                                  rw [List.append_nil] at ez
                                  refine .inl ⟨W1.stop _ _ σ3 G6 H6 _ _ g6 s7 (Nat.le_refl _), ?_⟩
                                  have g26 : Same G2 G6 := g23.trans (g4.trans (g5.trans g6))
                                  exact ⟨G6, restD δ2 δ7 vs, bV, bD, zs, g2.trans g26, s7.unblock (s2.relist (b := bV)) g26 agr3 len3 hno, rb, hr, by rw [ey, ← ez, List.append_assoc]⟩
          · cases e2
        · have ei : i = ds.length := by omega
          subst ei
          rw [List.drop_length] at e2
          cases e2
          have gd : G2 D = none := s2.dis D _ upd_same
          refine .inl ⟨W.stop _ _ σ G2 H2 _ _ g2 s2 (Nat.le_refl _), ?_⟩
          rw [List.append_nil] at ey
          subst ey
          exact p1 (upd G2 D (.lst accV)) H2 _ (s2.leave fD) (g2.trans (same_upd gd)) (.lst upd_same (ra.mono (same_upd gd)))
      · cases e1
section
variable {c : SC}
theorem fe_lc2 {elt tg iter tg1 iter1 : Expr} {ifs ifs1 : List Expr} {scope : Scope} (own : List (Str × Nat)) (vs1 : List Nat) {pos : Pos} {items items1 : M (List D)} {is is1 : List Nat} {bd bd1 : D → De → Option De} {tt tt1 : M Bool} {fe : M D} (nd : c.N.Nodup) (hi : FI c tg iter items) (ok : blkC c.N c.sc scope own = true)
    (hg : FG (blkSC c scope) tg is bd) (ht : FTs (blkSC c scope) ifs tt) (hi1 : FI (blkSC c scope) tg1 iter1 items1) (hg1 : FG (blkSC c scope) tg1 is1 bd1) (ht1 : FTs (blkSC c scope) ifs1 tt1) (he : FE (blkSC c scope) elt fe)
    (his : ∀ i ∈ is, i ∈ own.map (·.2)) (his1 : ∀ i ∈ is1, i ∈ vs1) (hv : ∀ i ∈ vs1, i ∈ own.map (·.2)) (hs : ∀ (env : Env) x, foldedSetIterable iter env x = pure x := by intro _ _; rfl) (hs1 : ∀ (env : Env) x, foldedSetIterable iter1 env x = pure x := by intro _ _; rfl) :
    FE c (.ListComp elt [⟨tg, iter, ifs, 0⟩, ⟨tg1, iter1, ifs1, 0⟩] scope pos) (lcM2 (own.map (·.2)) bd tt items1 vs1 bd1 tt1 fe items) := by
  obtain ⟨wi, pi, si⟩ := hi.ex
  obtain ⟨wi1, pi1, si1⟩ := hi1.ex
  obtain ⟨g, pg, sg⟩ := hg.ex
  obtain ⟨g1, pg1, sg1⟩ := hg1.ex
  obtain ⟨t, pt, st⟩ := ht.ex
  obtain ⟨t1, pt1, st1⟩ := ht1.ex
  obtain ⟨te, pe, se⟩ := he.ex
  exact ⟨_, fun X h => pe_lc2 h.calm (by rw [h.N]; exact nd) (pi X h) (by rw [h.N, h.sc]; exact blkOk_by ok) hv (fun s H C cl fp => pg _ (in_blk h s H C cl fp)) (fun s H C cl fp => pt _ (in_blk h s H C cl fp)) (fun s H C cl fp => pi1 _ (in_blk h s H C cl fp)) (fun s H C cl fp => pg1 _ (in_blk h s H C cl fp)) (fun s H C cl fp => pt1 _ (in_blk h s H C cl fp)) (fun s H C cl fp => pe _ (in_blk h s H C cl fp)) (hs _) hs1,
    sp_lc2 si sg st his si1 sg1 st1 his1 se⟩
end
end FL

set_option Elab.async false
set_option linter.all false
set_option maxRecDepth 100000
set_option maxHeartbeats 2000000
/-! FL21: [::-1], list(range(..)), tuple + tuple. -/
namespace FL
open PySem PySem.Spec PyProof.Rows L2
section
variable {c : SC}
def revD : D → Option D
  | .lst ds => some (.lst ds.reverse)
  | _ => none
theorem RepL.reverse {K : PySem.W.Frag} {G : Hp} {vs : List V} {ds : List D} (r : RepL K G vs ds) : RepL K G vs.reverse ds.reverse := by
  have : ∀ {vs ds}, RepL K G vs ds → RepL K G vs.reverse ds.reverse := by
    intro vs
    induction vs with
    | nil => intro ds r; cases r; exact .nil
    | cons v vs ih =>
      intro ds r
      cases r with
      | cons h t =>
        rw [List.reverse_cons, List.reverse_cons]
        exact (ih t).append (.cons h .nil)
  exact this r
theorem fe_rev {e : Expr} {f : M D} {k : Nat} {p1 p2 p3 pos : Pos} (he : FE c e f) : FE c (.Subscript e (.Slice none none (some (.UnaryOp .USub (.Constant (.int 1) k p1) p2)) p3) pos) (un1 revD f) := by
  obtain ⟨t, pe, se⟩ := he.ex
  refine ⟨tRevL c.K t, fun X h => by have := pe_revL (X := X) (k := k) (p1 := p1) (p2 := p2) (p3 := p3) (pos := pos) (pe X h); rwa [h.K] at this, fun F σ G H δ r s e Q p => ?_⟩
  refine se.step s e p fun G1 H1 δ1 x d s1 g1 rx e1 p1 => ?_
  obtain ⟨d', hd, rfl⟩ := liftO_eq e1
  unfold revD at hd
  split at hd
  · cases hd
    cases rx with
    | lst h1 h2 => exact ⟨_, _, rfl, .of (s1.sub _ _ h1), fun q hq => p1 _ _ _ (s1.new hq) (same_upd (s1.sub.free hq)) (.lst upd_same (h2.reverse.mono (same_upd (s1.sub.free hq))))⟩
  · cases hd
def rgL (a b : Int) : List D := rangeL a (b - a).toNat
theorem rep_rg {K : PySem.W.Frag} {G : Hp} (a b : Int) : RepL K G (rgV a b) (rgL a b) := by
  unfold rgV rgL rangeL
  generalize List.range (b - a).toNat = l
  induction l with
  | nil => exact .nil
  | cons x l ih => exact .cons (.int _) ih
def rgD (a b : Int) : Option D := if -(2 ^ 62) ≤ a ∧ a < 2 ^ 62 ∧ -(2 ^ 62) ≤ b ∧ b < 2 ^ 62 ∧ (b - a).toNat ≤ 2 ^ 24 then some (.lst (rgL a b)) else none
def lrg1 (f : M D) : M D := bindM f fun d => match d with | .int b => liftO (rgD 0 b) | _ => fun _ => none
def lrg2 (f g : M D) : M D := bindM f fun d => bindM g fun e => match d, e with | .int a, .int b => liftO (rgD a b) | _, _ => fun _ => none
theorem fe_listRg1 {a : Expr} {f : M D} {p p1 pos pos1 : Pos} (hm : c.mg "list" = none) (hm1 : c.mg "range" = none) (ha : FE c a f) (hg : Gb c "list" := by rfl) (hg1 : Gb c "range" := by rfl)
    (h1 : ∀ env : Env, starEach [a] env = (false, eval a env) :: starEach [] env := by intro _; rfl) (h2 : ∀ env : Env, starEach [.Call (.Name "range" p1) [a] [] pos1] env = (false, eval (.Call (.Name "range" p1) [a] [] pos1) env) :: starEach [] env := by intro _; rfl) :
    FE c (.Call (.Name "list" p) [.Call (.Name "range" p1) [a] [] pos1] [] pos) (lrg1 f) := by
  obtain ⟨t, pa, sa⟩ := ha.ex
  refine ⟨tLstRg (tRg1 t), fun X h => pe_listRg h.calm (show X.env.scope.names.lookup ("list" : Str) = _ by rw [h.sc]; exact hg) (by rw [h.mg]; exact hm) (prg_1 (show X.env.scope.names.lookup ("range" : Str) = _ by rw [h.sc]; exact hg1) (by rw [h.mg]; exact hm1) (pa X h) (h1 _)) (h2 _), fun F σ G H δ r s e Q p => ?_⟩
  refine sa.step s e p fun G1 H1 δ1 x d s1 g1 rx e1 p1 => ?_
  cases d <;> try (cases e1)
  rename_i b
  cases rx
  obtain ⟨d', hd, rfl⟩ := liftO_eq e1
  unfold rgD at hd
  split at hd
  · rename_i ok
    cases hd
    exact ⟨b, rfl, ok, fun q hq => p1 _ _ _ (s1.new hq) (same_upd (s1.sub.free hq)) (.lst upd_same (rep_rg 0 b))⟩
  · cases hd
theorem fe_listRg2 {a b : Expr} {f g : M D} {p p1 pos pos1 : Pos} (hm : c.mg "list" = none) (hm1 : c.mg "range" = none) (ha : FE c a f) (hb : FE c b g) (hg : Gb c "list" := by rfl) (hg1 : Gb c "range" := by rfl)
    (h1 : ∀ env : Env, starEach [a, b] env = (false, eval a env) :: starEach [b] env := by intro _; rfl) (h3 : ∀ env : Env, starEach [b] env = (false, eval b env) :: starEach [] env := by intro _; rfl) (hpl : ∀ env : Env, (backTo pos1 (starEach [b] env)).any (·.1) = false := by intro _; rfl)
    (h2 : ∀ env : Env, starEach [.Call (.Name "range" p1) [a, b] [] pos1] env = (false, eval (.Call (.Name "range" p1) [a, b] [] pos1) env) :: starEach [] env := by intro _; rfl) :
    FE c (.Call (.Name "list" p) [.Call (.Name "range" p1) [a, b] [] pos1] [] pos) (lrg2 f g) := by
  obtain ⟨t, pa, sa⟩ := ha.ex
  obtain ⟨u, pb, sb⟩ := hb.ex
  refine ⟨tLstRg (tRg2 t u), fun X h => pe_listRg h.calm (show X.env.scope.names.lookup ("list" : Str) = _ by rw [h.sc]; exact hg) (by rw [h.mg]; exact hm) (prg_2 (show X.env.scope.names.lookup ("range" : Str) = _ by rw [h.sc]; exact hg1) (by rw [h.mg]; exact hm1) (pa X h) (pb X h) (h1 _) (h3 _) (hp := hpl _)) (h2 _), fun F σ G H δ r s e Q p => ?_⟩
  refine sa.step s e p fun G1 H1 δ1 x d s1 g1 rx e1 p1 => ?_
  refine sb.step s1 e1 p1 fun G2 H2 δ2 y d2 s2 g2 ry e2 p2 => ?_
  split at e2
  · rename_i i j
    cases ry
    cases rx
    obtain ⟨d', hd, rfl⟩ := liftO_eq e2
    unfold rgD at hd
    split at hd
    · rename_i ok
      cases hd
      exact ⟨i, j, rfl, rfl, ok, fun q hq => p2 _ _ _ (s2.new hq) (same_upd (s2.sub.free hq)) (.lst upd_same (rep_rg i j))⟩
    · cases hd
  · cases e2
end
end FL

set_option Elab.async false
set_option linter.all false
set_option maxRecDepth 100000
set_option maxHeartbeats 2000000
/-! FL22: classes: fields, methods, instances made. -/
namespace FL
open PySem PySem.Spec PyProof.Rows L2
/-- names and values side by side -/
theorem zip_lookup {f : Str} : ∀ {names : List Str} {vs : List V} {j : Nat}, names[j]? = some f → names.Nodup → (names.zip vs).lookup f = vs[j]?
  | [], _, _, h, _ => by simp at h
  | n :: names, [], j, h, nd => by simp
  | n :: names, v :: vs, 0, h, nd => by
    simp at h; subst h
    simp
  | n :: names, v :: vs, j + 1, h, nd => by
    have h' : names[j]? = some f := by simpa using h
    have nf : f ≠ n := by
      rintro rfl
      exact (List.nodup_cons.mp nd).1 (List.mem_of_getElem? h')
    rw [List.zip_cons_cons, List.lookup_cons]
    have : (f == n) = false := by simpa using nf
    rw [this]
    simpa using zip_lookup h' (List.nodup_cons.mp nd).2
theorem zip_none {f : Str} : ∀ {names : List Str} {vs : List V}, f ∉ names → (names.zip vs).lookup f = none
  | [], _, _ => by simp
  | n :: names, [], _ => by simp
  | n :: names, v :: vs, h => by
    have nf : (f == n) = false := by
      have : f ≠ n := fun e => h (by simp [e])
      simpa using this
    rw [List.zip_cons_cons, List.lookup_cons, nf]
    exact zip_none fun z => h (by simp [z])
theorem putF_zip {f : Str} {v : V} : ∀ {names : List Str} {vs : List V}, names[vs.length]? = some f → f ∉ names.take vs.length → putF f v (names.zip vs) = names.zip (vs ++ [v])
  | [], _, h, _ => by simp at h
  | n :: names, [], h, _ => by simp at h; subst h; simp [putF]
  | n :: names, w :: vs, h, hn => by
    have nf : ¬ n = f := by
      intro e; apply hn; simp [e]
    rw [List.zip_cons_cons, putF, if_neg nf, List.cons_append, List.zip_cons_cons, putF_zip (by simpa using h) (by intro z; apply hn; simp [z])]
theorem ClsAt.uniq {K : PySem.W.Frag} {n : Nat} {C C' : Addr} (h : ClsAt K n C) (h' : ClsAt K n C') : C = C' := by
  unfold ClsAt at h h'
  rw [h] at h'
  cases h'
  rfl
/-- what is known of the n-th class -/
structure ClsD (K : PySem.W.Frag) (mg : Str → Option Value) (n : Nat) : Prop where
  ex : ∃ C : Addr, ClsAt K n C ∧ mg (clsName n) = some (.ref C) ∧ Cls K C ∧ ∀ f ∈ fldN n, NoAttr K C f
/-! ### e.f -/
def fldD (n j : Nat) : D → Option D
  | .ins m ds => if m = n then ds[j]? else none
  | _ => none
section
variable {c : SC}
theorem fe_fld (n j : Nat) {e : Expr} {f : Str} {fe : M D} {pos : Pos} (CD : ClsD c.K c.mg n) (he : FE c e fe) (hf : (fldN n)[j]? = some f := by rfl) (nd : (fldN n).Nodup := by decide +kernel)
    (hb : ∀ env : Env, attributeBase e f env (eval e env) = eval e env := by intro _; rfl) : FE c (.Attribute e f pos) (un1 (fldD n j) fe) := by
  obtain ⟨t, pa, sa⟩ := he.ex
  obtain ⟨C, hC, _, hcl, hna⟩ := CD.ex
  refine ⟨tFld c.K t f, fun X h => ?_, fun F σ G H δ r s e Q p => ?_⟩
  · have := pe_fld (X := X) (e := ‹Expr›) (f := f) (pos := pos) (pa X h) (hb _)
    rw [h.K] at this
    exact this
  · refine sa.step s e p fun G1 H1 δ1 v d s1 g1 rv e1 p1 => ?_
    obtain ⟨b, hb', rfl⟩ := liftO_eq e1
    cases rv with
    | @ins a C' dx m vs ds k1 k2 k3 k4 =>
      unfold fldD at hb'
      dsimp only at hb'
      split at hb'
      · rename_i em
        subst em
        have eC := k1.uniq hC
        subst eC
        obtain ⟨w, hw, rw'⟩ := k4.get hb'
        exact ⟨a, C', dx, _, w, rfl, s1.sub _ _ k2, hcl, hna f (List.mem_of_getElem? hf), by rw [zip_lookup hf nd]; exact hw, p1 G1 H1 w s1 (Same.refl _) rw'⟩
      · cases hb'
    | _ => cases hb'
/-! ### o.m(..) -/
structure FnM (P : Program) (w : World) (K : PySem.W.Frag) (mg : Str → Option Value) (base : Heap) (cl : Nat → Addr) (k n : Nat) (m : Str) (f : DF) : Prop where
  ex : ∃ (C a : Addr) (fd : FuncData) (ps : List Str), ClsAt K n C ∧ Cls K C ∧ Meth K C m a ∧ Binds K fd ps [] ∧ FnOk P w K mg base (L2.CX P w) k a fd ps (spD K cl f)
  nf : m ∉ fldN n
def methM (n : Nat) (f : DF) (fo : M D) (fa : M (List D)) : M D := bindM fo fun o => match o with
  | .ins m ds => if m = n then bindM fa fun es => resM (f (.ins m ds :: es)) else fun _ => none
  | _ => fun _ => none
theorem besides_at {G H : Hp} {b : Addr} {o : HO} (e : besides G H b = some o) : G b = none ∧ H b = some o := by
  unfold besides at e
  split at e
  · cases e
  · rename_i q; exact ⟨q, e⟩
/-- the callee's promise, from what its data give -/
theorem spD_of {T : List (Addr × PySem.Str)} {F G H : Hp} {σ : L2.St} {δ : De} {f : DF} {vs : List V} {ds : List D} {r : R D} {Q : VK} (s : S (c.K, T) F σ G H δ) (rx : RepL c.K G vs ds) (e : resM (f ds) δ = some r)
    (p : Post (c.K, T) c.cl c.E F σ G (Rep c.K) Q r) : spD c.K c.cl f vs H Q (fun cls d H => c.E cls d H) := by
  unfold resM at e
  cases h : f ds with
  | none => rw [h] at e; cases e
  | some rr =>
    rw [h] at e
    refine ⟨besides G H, G, ds, rr, s.sub, fun b o e => (besides_at e).2, fun b o e => (besides_at e).1, s.ntg, rx, h, ?_⟩
    cases rr with
    | ret d =>
      cases e
      exact fun G' H' v g' h' f' d' n' rv => p G' H' v (s.after g' h' f' d' n') g' rv
    | ex k =>
      cases e
      exact fun G' H' g' h' f' => p G' H' g' h' fun b o e => f' _ _ (by unfold besides; rw [s.dis _ _ e]; exact s.frm _ _ e)
theorem fe_meth {k n : Nat} {m : Str} {f : DF} {o e : Expr} {es : List Expr} {fo : M D} {fa : M (List D)} {apos pos : Pos} (F : FnM c.P c.w c.K c.mg c.base c.cl k n m f) (ho : FE c o fo) (ha : FA c (e :: es) fa) (hk : Nat.ble k c.k = true := by rfl)
    (hst : ∀ env : Env, starEach (e :: es) env = (false, eval e env) :: starEach es env := by intro _; rfl) (hpl : ∀ env : Env, (backTo pos (starEach es env)).any (·.1) = false := by intro _; rfl)
    (ht : ∀ env : Env, ∃ pl : Sem Bool, eval (.Call (.Attribute o m apos) (e :: es) [] pos) env = (do
      let ov ← eval o env
      standAt apos.atName
      let (f, first) ← holding [ov] (getMethod ov m pl)
      callWith pos f first (backTo pos (starEach (e :: es) env)) (backToKw pos (keywordEach [] env))) := by intro _; exact ⟨_, rfl⟩) :
    FE c (.Call (.Attribute o m apos) (e :: es) [] pos) (methM n f fo fa) := by
  obtain ⟨t, pt, st⟩ := ha.ex
  obtain ⟨to, po, so⟩ := ho.ex
  obtain ⟨C, a, fd, ps, h1, h2, h3, h4, h5⟩ := F.ex
  refine ⟨tMeth C m (spD c.K c.cl f) [] (fun cls d H => c.E cls d H) to t, fun X h => ?_, fun F' σ G H δ r s e Q p => ?_⟩
  · have h5' : FnOk X.prog X.w X.K X.mg X.base (L2.CX X.prog X.w) k a fd ps (spD c.K c.cl f) := by rw [h.P, h.w, h.K, h.mg, h.base]; exact h5
    obtain ⟨pl, hpe⟩ := ht X.env
    exact pe_meth (pl := pl) (po X h) (by rw [h.K]; exact h2) (by rw [h.K]; exact h3) h5' (h.room.mono (Nat.le_of_ble_eq_true hk)) (by rw [h.K]; exact h4) .nil (passes_call h.tk fun _ _ _ _ z => z) (pt X h) (hst _) (hpl _) hpe
  · refine so.step s e p fun G1 H1 δ1 v d s1 g1 rv e1 p1 => ?_
    cases rv with
    | @ins b C' dx q vs ds k1 k2 k3 k4 =>
      dsimp only at e1
      split at e1
      · rename_i em
        subst em
        have eC := k1.uniq h1
        subst eC
        refine ⟨b, dx, _, rfl, s1.sub _ _ k2, zip_none F.nf, ?_⟩
        refine st.step s1 e1 p1 fun G2 H2 δ2 ws es s2 g2 rw2 e2 p2 => ?_
        rw [List.append_nil]
        exact spD_of s2 (.cons ((Rep.ins k1 k2 k3 k4).mono g2) rw2) e2 p2
      · cases e1
    | _ => cases e1
theorem fe_meth0 {k n : Nat} {m : Str} {f : DF} {o : Expr} {fo : M D} {apos pos : Pos} (F : FnM c.P c.w c.K c.mg c.base c.cl k n m f) (ho : FE c o fo) (hk : Nat.ble k c.k = true := by rfl)
    (ht : ∀ env : Env, ∃ pl : Sem Bool, eval (.Call (.Attribute o m apos) [] [] pos) env = (do
      let ov ← eval o env
      standAt apos.atName
      let (f, first) ← holding [ov] (getMethod ov m pl)
      callWith pos f first (backTo pos (starEach [] env)) (backToKw pos (keywordEach [] env))) := by intro _; exact ⟨_, rfl⟩) :
    FE c (.Call (.Attribute o m apos) [] [] pos) (methM n f fo (pureM [])) := by
  obtain ⟨to, po, so⟩ := ho.ex
  obtain ⟨C, a, fd, ps, h1, h2, h3, h4, h5⟩ := F.ex
  refine ⟨tMeth C m (spD c.K c.cl f) [] (fun cls d H => c.E cls d H) to tNil, fun X h => ?_, fun F' σ G H δ r s e Q p => ?_⟩
  · have h5' : FnOk X.prog X.w X.K X.mg X.base (L2.CX X.prog X.w) k a fd ps (spD c.K c.cl f) := by rw [h.P, h.w, h.K, h.mg, h.base]; exact h5
    obtain ⟨pl, hpe⟩ := ht X.env
    exact pe_meth0 (pl := pl) (po X h) (by rw [h.K]; exact h2) (by rw [h.K]; exact h3) h5' (h.room.mono (Nat.le_of_ble_eq_true hk)) (by rw [h.K]; exact h4) .nil (passes_call h.tk fun _ _ _ _ z => z) hpe
  · refine so.step s e p fun G1 H1 δ1 v d s1 g1 rv e1 p1 => ?_
    cases rv with
    | @ins b C' dx q vs ds k1 k2 k3 k4 =>
      dsimp only at e1
      split at e1
      · rename_i em
        subst em
        have eC := k1.uniq h1
        subst eC
        refine ⟨b, dx, _, rfl, s1.sub _ _ k2, zip_none F.nf, ?_⟩
        exact spD_of s1 (.cons (.ins k1 k2 k3 k4) .nil) e1 p1
      · cases e1
    | _ => cases e1
/-- a method of one class or of another -/
def orF (f g : M D) : M D := fun δ => (f δ).or (g δ)
theorem pe_or {X : Cx} {e : Expr} {t t' : TE} (h : PE X e t) (h' : PE X e t') : PE X e (fun σ H Q => t σ H Q ∨ t' σ H Q) :=
  ⟨fun pins s σ H Q I z => z.elim (h.run pins s σ H Q I) (h'.run pins s σ H Q I)⟩
theorem fe_or2 {e : Expr} {f g : M D} (h : FE c e f) (h' : FE c e g) : FE c e (orF f g) := by
  obtain ⟨t, pt, st⟩ := h.ex
  obtain ⟨u, pu, su⟩ := h'.ex
  refine ⟨_, fun X i => pe_or (pt X i) (pu X i), fun F σ G H δ r s e Q p => ?_⟩
  unfold orF at e
  cases hf : f δ with
  | some a => rw [hf] at e; cases e; exact .inl (st F σ G H δ _ s hf Q p)
  | none => rw [hf] at e; exact .inr (su F σ G H δ _ s e Q p)
/-! ### C(..) -/
/-- the promise of __init__ -/
def spI (K : PySem.W.Frag) (cl : Nat → Addr) (C : Addr) (f : DF) : Sp := fun vs H Q E => ∃ (F G : Hp) (ds : List D) (r : Res) (x dx : Addr) (ws : List V), vs = .ref x :: ws ∧ H x = some (.ins C dx []) ∧ F x = none ∧ G x = none ∧
  Same G H ∧ Same F H ∧ (∀ b o, F b = some o → G b = none) ∧ (∀ b ps, G b ≠ some (.tbl ps)) ∧ RepL K G ws ds ∧ f ds = some r ∧
  match r with
  | .ret d => ∀ G' H', Same G G' → Same G' H' → Same F H' → (∀ b o, F b = some o → G' b = none) → (∀ b ps, G' b ≠ some (.tbl ps)) → Rep K G' (.ref x) d → Q .non H'
  | .ex k => ∀ G' H', Same G G' → Same G' H' → Same F H' → E (.ref (cl k)) none H'
structure FnI (P : Program) (w : World) (K : PySem.W.Frag) (mg : Str → Option Value) (base : Heap) (cl : Nat → Addr) (k n : Nat) (nd : Nat) (dv : List D) (f : DF) : Prop where
  ex : ∃ (C a : Addr) (fd : FuncData) (ps : List Str) (dvs : List V) (ds : List Value), ClsAt K n C ∧ mg (clsName n) = some (.ref C) ∧ Mk K C a ∧ Binds K fd ps ds ∧ Vals dvs ds ∧ (∀ G, RepL K G dvs dv) ∧ FnOk P w K mg base (L2.CX P w) k a fd ps (spI K cl C f)
theorem fe_make {k n nd : Nat} {dv : List D} {x : Str} {f : DF} {p pos : Pos} {e : Expr} {es : List Expr} {fa : M (List D)} (F : FnI c.P c.w c.K c.mg c.base c.cl k n nd dv f) (ha : FA c (e :: es) fa) (hk : Nat.ble (k + 1) c.k = true := by rfl) (hx : clsName n = x := by rfl)
    (hg : Gb c x := by rfl)
    (hdb : (x == ("__debug__" : Str)) = false := by decide) (he : ∀ env : Env, starEach (e :: es) env = (false, eval e env) :: starEach es env := by intro _; rfl) (hpl : ∀ env : Env, (backTo pos (starEach es env)).any (·.1) = false := by intro _; rfl) :
    FE c (.Call (.Name x p) (e :: es) [] pos) (callM (fun l => f (l ++ dv)) fa) := by
  obtain ⟨t, pa, sa⟩ := ha.ex
  obtain ⟨C, a, fd, ps, dvs, ds, h1, h2, h3, h4, h5, h6, h7⟩ := F.ex
  subst hx
  refine ⟨tMake C (spI c.K c.cl C f) dvs (fun cls d H => c.E cls d H) t, fun X h => ?_, fun F' σ G H δ r s e Q p => ?_⟩
  · have h7' : FnOk X.prog X.w X.K X.mg X.base (L2.CX X.prog X.w) k a fd ps (spI c.K c.cl C f) := by rw [h.P, h.w, h.K, h.mg, h.base]; exact h7
    exact pe_make (by rw [h.K]; exact h3) h7' (h.room.mono (Nat.le_of_ble_eq_true hk)) (show X.env.scope.names.lookup _ = _ by rw [h.sc]; exact hg) (by rw [h.mg]; exact h2) (by rw [h.K]; exact h4) h5 (passes_call h.tk fun _ _ _ _ z => z) (pa X h) hdb (he _) (hpl _)
  · refine sa.step s e p fun G1 H1 δ1 vs es s1 g1 rx e1 p1 => ?_
    intro x dx nx ndx nex
    unfold resM at e1
    dsimp only at e1
    cases hf : f (es ++ dv) with
    | none => rw [hf] at e1; cases e1
    | some rr =>
      rw [hf] at e1
      have keep : ∀ b o, H1 b = some o → (upd (upd H1 dx (.own x)) x (.ins C dx [])) b = some o := fun b o z => by rw [upd_ne (ne_of_none z nx), upd_ne (ne_of_none z ndx)]; exact z
      have bx : besides G1 H1 x = none := by
        cases q : besides G1 H1 x with
        | none => rfl
        | some o => have := (besides_at q).2; rw [nx] at this; cases this
      refine ⟨besides G1 H1, G1, es ++ dv, rr, x, dx, _, rfl, upd_same, bx, s1.sub.free nx, fun b o z => keep b o (s1.sub _ _ z), fun b o z => keep b o (besides_at z).2, fun b o z => (besides_at z).1, s1.ntg, rx.append (h6 _), hf, ?_⟩
      cases rr with
      | ret d =>
        cases e1
        exact fun G' H' g' h' f' d' n' rv => ⟨rfl, p1 G' H' (.ref x) (s1.after g' h' f' d' n') g' rv⟩
      | ex k =>
        cases e1
        exact fun G' H' g' h' f' => p1 G' H' g' h' fun b o z => f' _ _ (by unfold besides; rw [s1.dis _ _ z]; exact s1.frm _ _ z)
end
/-! ### __init__ -/
def PostI (κ : PySem.W.Frag × List (Addr × PySem.Str)) (cl : Nat → Addr) (E : XK) (F G : Hp) (p : Addr) (Dn : Ends) : Out → Prop
  | .rt d => ∀ σ' G' H' δ', S κ F σ' G' H' δ' → Same G G' → Rep κ.1 G' (.ref p) d → Dn.nx σ' H'
  | .ex k => ∀ G' H', Same G G' → Same G' H' → Same F H' → E (.ref (cl k)) none H'
  | _ => False
theorem PostI.weak {κ : PySem.W.Frag × List (Addr × PySem.Str)} {cl : Nat → Addr} {E : XK} {F G G1 : Hp} {p : Addr} {Dn : Ends} (e : Same G G1) : ∀ {o : Out}, PostI κ cl E F G p Dn o → PostI κ cl E F G1 p Dn o
  | .rt d, h => fun σ' G' H' δ' s g r => h σ' G' H' δ' s (e.trans g) r
  | .ex k, h => fun G' H' g h' f => h G' H' (e.trans g) h' f
  | .nx _, h => h.elim
  | .bk _, h => h.elim
  | .ct _, h => h.elim
def insO (C dx : Addr) (n : Nat) (vs : List V) : HO := .ins C dx ((fldN n).zip vs)
def SpI (κ : PySem.W.Frag × List (Addr × PySem.Str)) (cl : Nat → Addr) (E : XK) (n : Nat) (C : Addr) (t : TS) (g : List D → Fo) : Prop :=
  ∀ F σ G H δ p dx vs fs o, F p = none → σ[0]? = some (some (V.ref p)) → S κ (upd F p (insO C dx n vs)) σ G H δ → RepL κ.1 G vs fs → g fs δ = some o → ∀ Dn, PostI κ cl E F G p Dn o → t Dn σ H
structure FSI (c : SC) (n : Nat) (sts : List Stmt) (g : List D → Fo) : Prop where
  ex : ∀ C, ClsAt c.K n C → Cls c.K C → (∀ f ∈ fldN n, NoAttr c.K C f) → ∃ t, (∀ X, In c X → PSs X sts t) ∧ SpI c.κ c.cl c.E n C t g
section
variable {K : PySem.W.Frag} {T : List (Addr × PySem.Str)} {F G H : Hp} {σ : L2.St} {δ : De}
theorem S.reins {p C dx : Addr} {n : Nat} {a b : List V} (s : S (K, T) (upd F p (insO C dx n a)) σ G H δ) (hf : F p = none) : S (K, T) (upd F p (insO C dx n b)) σ G (upd H p (insO C dx n b)) δ := by
  have hp : H p = some (insO C dx n a) := s.frm _ _ upd_same
  have gp : G p = none := s.dis p _ upd_same
  have nG : ∀ b o, G b = some o → b ≠ p := fun b o e => ne_of_none e gp
  refine ⟨fun b o e => ?_, fun b o e => ?_, fun b o e => ?_, s.len, s.val, fun i xs e => ?_, s.inj, fun x hx => ?_, fun x hx => ?_, s.ntg, ?_⟩
  · rw [upd_ne (nG _ _ e)]; exact s.sub _ _ e
  · by_cases hb : b = p
    · subst hb; rw [upd_same] at e ⊢; exact e
    · rw [upd_ne hb] at e ⊢; exact s.frm _ _ (by rw [upd_ne hb]; exact e)
  · by_cases hb : b = p
    · subst hb; exact gp
    · rw [upd_ne hb] at e; exact s.dis b o (by rw [upd_ne hb]; exact e)
  · obtain ⟨q, vs, h1, h2, h3, h4, h5⟩ := s.own i xs e
    have nq : q ≠ p := fun z => by rw [z, upd_same] at h5; cases h5
    exact ⟨q, vs, h1, by rw [upd_ne nq]; exact h2, h3, h4, by rw [upd_ne nq] at h5 ⊢; exact h5⟩
  · obtain ⟨ps, h1, h2, h3⟩ := s.tab x hx
    have nx : x.1 ≠ p := fun z => by rw [z, hp] at h1; cases h1
    refine ⟨ps, by rw [upd_ne nx]; exact h1, h2, fun pos cv hc => ?_⟩
    obtain ⟨c', e1, e2⟩ := h3 pos cv hc
    refine ⟨c', e1, ?_⟩
    rw [upd_ne]
    · exact e2
    · rintro rfl
      rw [hp] at e2
      unfold LamX.CodeO at e2
      cases e2
  · have := s.tnf x hx
    have nx : x.1 ≠ p := fun z => by have t := this.1; rw [z, upd_same] at t; cases t
    exact ⟨by rw [upd_ne nx] at this ⊢; exact this.1, this.2⟩
  · rcases s.ntf with z | z
    · exact .inl z
    · obtain ⟨xs, e⟩ := z p _ upd_same
      cases e
theorem S.frzI {p C dx : Addr} {n : Nat} {a : List V} {fs : List D} (s : S (K, T) (upd F p (insO C dx n a)) σ G H δ) (hf : F p = none) (h0 : σ[0]? = some (some (V.ref p))) (hC : ClsAt K n C) (r : RepL K G a fs) (hl : fs.length = (fldN n).length) :
    Same G (upd G p (insO C dx n a)) ∧ Rep K (upd G p (insO C dx n a)) (.ref p) (.ins n fs) ∧ S (K, T) F σ (upd G p (insO C dx n a)) H (δ.set 0 (.val (.ins n fs))) := by
  have hp : H p = some (insO C dx n a) := s.frm _ _ upd_same
  have gp : G p = none := s.dis p _ upd_same
  have sg : Same G (upd G p (insO C dx n a)) := same_upd gp
  have rp : Rep K (upd G p (insO C dx n a)) (.ref p) (.ins n fs) := .ins hC upd_same hl (r.mono sg)
  have fne : ∀ b o, F b = some o → b ≠ p := fun b o e => ne_of_none e hf
  refine ⟨sg, rp, ⟨fun b o e => ?_, fun b o e => ?_, fun b o e => ?_, by simp [s.len], fun i d e => ?_, fun i xs e => ?_, fun i j xs ys hn e1 e2 => ?_, s.tab, fun x hx => ?_, fun b ps e => ?_, ?_⟩⟩
  · by_cases hb : b = p
    · subst hb; rw [upd_same] at e; rw [← e]; exact hp
    · rw [upd_ne hb] at e; exact s.sub _ _ e
  · exact s.frm _ _ (by rw [upd_ne (fne _ _ e)]; exact e)
  · rw [upd_ne (fne _ _ e)]; exact s.dis b o (by rw [upd_ne (fne _ _ e)]; exact e)
  · rcases get_set e with ⟨hi, _, z⟩ | ⟨hi, e⟩
    · cases z; subst hi; exact ⟨_, h0, rp⟩
    · obtain ⟨v, h1, h2⟩ := s.val i d e
      exact ⟨v, h1, h2.mono sg⟩
  · rcases get_set e with ⟨hi, _, z⟩ | ⟨hi, e⟩
    · cases z
    · obtain ⟨q, vs, h1, h2, h3, h4, h5⟩ := s.own i xs e
      have nq : q ≠ p := fun z => by rw [z, upd_same] at h5; cases h5
      exact ⟨q, vs, h1, h2, h3.mono sg, by rw [upd_ne nq]; exact h4, by rw [upd_ne nq] at h5; exact h5⟩
  · rcases get_set e1 with ⟨_, _, z⟩ | ⟨_, e1⟩
    · cases z
    · rcases get_set e2 with ⟨_, _, z⟩ | ⟨_, e2⟩
      · cases z
      · exact s.inj i j xs ys hn e1 e2
  · have := s.tnf x hx
    have nx : x.1 ≠ p := fun z => by have t := this.1; rw [z, upd_same] at t; cases t
    exact ⟨by rw [upd_ne nx] at this; exact this.1, by rw [upd_ne nx]; exact this.2⟩
  · by_cases hb : b = p
    · subst hb; rw [upd_same] at e; cases e
    · rw [upd_ne hb] at e; exact s.ntg b ps e
  · rcases s.ntf with z | z
    · exact .inl z
    · obtain ⟨xs, e⟩ := z p _ upd_same
      cases e
end
section
variable {c : SC}
/-- self.f = e -/
def putI (n : Nat) (j : Nat) (f : M D) (g : List D → Fo) : List D → Fo := fun fs => thenS f fun d => if fs.length = j then g (fs ++ [d]) else fun _ => none
theorem fi_put (n j : Nat) {x f : Str} {e : Expr} {fe : M D} {p1 p2 pos : Pos} {rest : List Stmt} {g : List D → Fo} (he : FE c e fe) (hr : FSI c n rest g) (hj : (fldN n)[j]? = some f := by rfl) (hnt : f ∉ (fldN n).take j := by decide +kernel)
    (hN : c.N[0]? = some x := by rfl) (hv : Vis c.sc x := by first | exact Or.inl rfl | exact Or.inr (Or.inl rfl) | exact Or.inr (Or.inr rfl)) (hd : (x == ("__debug__" : Str)) = false := by decide) (hcd : (x == ("__classdict__" : Str)) = false := by decide)
    (hs : ∀ env : Env, env.scope = c.sc → swapsWith e (some (.Attribute (.Name x p1) f p2)) pos.line env = pure false := by intro _ _; rfl) (hm : (fldN n).length < 1000 := by decide) :
    FSI c n (.Assign [.Attribute (.Name x p1) f p2] e pos :: rest) (putI n j fe g) := by
  refine ⟨fun C hC hcl hna => ?_⟩
  obtain ⟨t, pt, st⟩ := he.ex
  obtain ⟨u, pu, su⟩ := hr.ex C hC hcl hna
  refine ⟨tSeq (sFld c.K (tVar 0) t f) u, fun X h => ?_, fun F σ G H δ p dx vs fs o hF h0 s r e Dn post => ?_⟩
  · have h1 := ps_fld (X := X) (f := f) (pos := pos) (pos' := p2) (pe_var (i := 0) (pos := p1) (by rw [h.N]; exact hN) (by rw [h.sc]; exact hv) hd hcd) (pt X h) (hs _ h.sc)
    rw [h.K] at h1
    exact pss_cons h1 (pu X h)
  · unfold putI thenS at e
    cases hf : fe δ with
    | none => rw [hf] at e; cases e
    | some ra =>
      rw [hf] at e
      refine st _ σ G H δ ra s hf _ ?_
      cases ra with
      | ex k =>
        cases e
        exact fun G' H' g' h' f' => post G' H' g' h' fun b o z => f' b o (by rw [upd_ne (ne_of_none z hF)]; exact z)
      | ok d δ1 =>
        intro G1 H1 v s1 g1 rv
        dsimp only at e
        split at e
        · rename_i hl
          have hp : H1 p = some (insO C dx n vs) := s1.frm _ _ upd_same
          have ev : vs.length = j := by rw [r.length]; exact hl
          refine ⟨_, h0, p, C, dx, _, rfl, hp, hcl, hna f (List.mem_of_getElem? hj), ?_, ?_⟩
          · rw [List.length_zip]; omega
          · rw [putF_zip (by rw [ev]; exact hj) (by rw [ev]; exact hnt)]
            exact su F σ G1 _ δ1 p dx (vs ++ [v]) (fs ++ [d]) o hF h0 (s1.reins hF) ((r.mono g1).append (.cons rv .nil)) e Dn (post.weak g1)
        · cases e
/-- if t: raise X -/
def raiI (t : M Bool) (k : Nat) (g : List D → Fo) : List D → Fo := fun fs => thenS t fun b => if b then (fun _ => some (.ex k)) else g fs
theorem fi_rai {n k : Nat} {e : Expr} {a : List Stmt} {t : M Bool} {pos : Pos} {rest : List Stmt} {g : List D → Fo} (h : FT c e t) (ha : FS c a (fun _ => some (.ex k))) (hr : FSI c n rest g) : FSI c n (.If e a [] pos :: rest) (raiI t k g) := by
  refine ⟨fun C hC hcl hna => ?_⟩
  obtain ⟨tt, pt, st⟩ := h.ex
  obtain ⟨ta, pa, sa⟩ := ha.ex
  obtain ⟨u, pu, su⟩ := hr.ex C hC hcl hna
  refine ⟨_, fun X h => pss_cons (ps_if (pt X h) (pa X h) pss_nil) (pu X h), fun F σ G H δ p dx vs fs o hF h0 s r e Dn post => ?_⟩
  unfold raiI thenS at e
  have px : ∀ k, PostI c.κ c.cl c.E F G p Dn (.ex k) → ∀ {G1}, Same G G1 → ∀ (Dn' : Ends), PostS c.κ c.cl c.E (upd F p (insO C dx n vs)) G1 Dn' (.ex k) := fun k z G1 g1 Dn' G' H' g' h' f' => z G' H' (g1.trans g') h' fun b o q => f' b o (by rw [upd_ne (ne_of_none q hF)]; exact q)
  cases hf : t δ with
  | none => rw [hf] at e; cases e
  | some ra =>
    rw [hf] at e
    refine st _ σ G H δ ra s hf _ ?_
    cases ra with
    | ex k =>
      cases e
      exact fun G' H' g' h' f' => px k post (Same.refl _) Dn G' H' g' h' f'
    | ok b δ1 =>
      intro G1 H1 v s1 g1 rv
      have eb : v = b := rv
      subst eb
      cases v with
      | true =>
        rw [if_pos rfl]
        cases e
        exact sa _ σ G1 H1 δ1 _ s1 rfl _ (px k post g1 _)
      | false =>
        rw [if_neg Bool.false_ne_true]
        exact su F σ G1 H1 δ1 p dx vs fs o hF h0 s1 (r.mono g1) e Dn (post.weak g1)
/-- from here on self is read, and no more changed -/
def frzI (n : Nat) (f : Fo) : List D → Fo := fun fs δ => if fs.length = (fldN n).length then match f (δ.set 0 (.val (.ins n fs))) with
    | some (.nx _) => some (.rt (.ins n fs))
    | some (.ex k) => some (.ex k)
    | _ => none
  else none
theorem fi_frz {n : Nat} {sts : List Stmt} {f : Fo} (h : FS c sts f) : FSI c n sts (frzI n f) := by
  refine ⟨fun C hC hcl hna => ?_⟩
  obtain ⟨t, pt, st⟩ := h.ex
  refine ⟨t, pt, fun F σ G H δ p dx vs fs o hF h0 s r e Dn post => ?_⟩
  unfold frzI at e
  split at e
  · rename_i hl
    obtain ⟨sg, rp, s2⟩ := s.frzI hF h0 hC r hl
    cases hf : f (δ.set 0 (.val (.ins n fs))) with
    | none => rw [hf] at e; cases e
    | some o' =>
      rw [hf] at e
      cases o' with
      | nx δ' =>
        cases e
        exact st F σ _ H _ _ s2 hf Dn fun σ' G' H' s' g' => post σ' G' H' δ' s' (sg.trans g') (rp.mono g')
      | ex k =>
        cases e
        exact st F σ _ H _ _ s2 hf Dn fun G' H' g' h' f' => post G' H' (sg.trans g') h' f'
      | _ => cases e
  · cases e
/-- the class's own function -/
def outI : Option Out → Option Res
  | some (.rt d) => some (.ret d)
  | some (.ex k) => some (.ex k)
  | _ => none
def mkF (N : List Str) (k : Nat) (g : List D → Fo) : DF := fun ds => if ds.length = k then outI (g [] (.un :: ds.map .val ++ List.replicate (N.length - (k + 1)) .un)) else none
theorem S.startI {K : PySem.W.Frag} {F G H : Hp} {N : List Str} {x : Addr} {vs : List V} {ds : List D} (sub : Same G H) (frm : Same F H) (dis : ∀ b o, F b = some o → G b = none) (ng : ∀ b ps, G b ≠ some (.tbl ps)) (r : RepL K G vs ds) (h : ds.length + 1 ≤ N.length) :
    S (K, []) F (L2.start N (.ref x :: vs)) G H (.un :: ds.map .val ++ List.replicate (N.length - (ds.length + 1)) .un) := by
  have e : (Sl.un :: ds.map Sl.val ++ List.replicate (N.length - (ds.length + 1)) Sl.un) = (Sl.un :: ds.map .val) ++ List.replicate (N.length - (ds.length + 1)) .un := rfl
  have at_ : ∀ (i : Nat) sl, (Sl.un :: ds.map Sl.val ++ List.replicate (N.length - (ds.length + 1)) Sl.un)[i]? = some sl → sl = .un ∨ ∃ j d, i = j + 1 ∧ ds[j]? = some d ∧ sl = .val d := fun i sl hh => by
    rw [e, List.getElem?_append] at hh
    split at hh
    · cases i with
      | zero => simp at hh; exact .inl hh.symm
      | succ j =>
        rw [List.getElem?_cons_succ, List.getElem?_map] at hh
        cases q : ds[j]? with
        | none => rw [q] at hh; cases hh
        | some d => rw [q] at hh; cases hh; exact .inr ⟨j, d, rfl, q, rfl⟩
    · rw [List.getElem?_replicate] at hh
      split at hh
      · cases hh; exact .inl rfl
      · cases hh
  have hvl : (V.ref x :: vs).length ≤ N.length := by rw [List.length_cons, r.length]; exact h
  refine ⟨sub, frm, dis, ?_, fun i d hh => ?_, fun i xs hh => ?_, fun i j xs ys _ hh => ?_, fun x hx => absurd (show x ∈ ([] : List (Addr × PySem.Str)) from hx) (by simp), fun x hx => absurd (show x ∈ ([] : List (Addr × PySem.Str)) from hx) (by simp), ng, .inl rfl⟩
  · rw [start_len hvl]; simp; omega
  · rcases at_ i _ hh with z | ⟨j, d', hi, hd, z⟩
    · cases z
    · cases z
      obtain ⟨v, h1, h2⟩ := r.get hd
      refine ⟨v, ?_, h2⟩
      subst hi
      have hj : j + 1 < (V.ref x :: vs).length := by
        obtain ⟨z, _⟩ := List.getElem?_eq_some_iff.mp h1
        simpa using z
      unfold L2.start
      rw [List.getElem?_append_left (by simpa using hj), List.getElem?_map, List.getElem?_cons_succ, h1]
      rfl
  · rcases at_ i _ hh with z | ⟨j, d', hi, hd, z⟩ <;> cases z
  · rcases at_ i _ hh with z | ⟨j, d', hi, hd, z⟩ <;> cases z
theorem fnI {P : Program} {w : World} {K : PySem.W.Frag} {mg : Str → Option Value} {base : Heap} {cl : Nat → Addr} {k n : Nat} {q : Str} {st : Stmt} {a C : Addr} {fd : FuncData} {N ps : List Str} {g : List D → Fo}
    (Fn : ∃ (oc : Value) (od : Option Addr) (params : Arguments) (dV kV doc pm : Value) (an : Option Addr) (cdv ct : Value) (osl : Array (Option Value)), fd = PySem.W.fnOf "__init__" q params (defBody st) (defScope st) dV kV doc pm an cdv ct ∧ K.lookup a = some ⟨oc, od, .func fd, osl⟩ ∧ PySem.W.codeIn K cdv q = true)
    (Sc : FnScope N ps (defScope st)) (hN : ps.length ≤ N.length) (hp : 1 ≤ ps.length) (hC : ClsAt K n C) (hcl : Cls K C) (hna : ∀ f ∈ fldN n, NoAttr K C f)
    (body : ∀ E : XK, FSI ⟨P, w, K, mg, base, N, defScope st, k, cl, E, fun _ => true, [], .none, ""⟩ n (defBody st) g) : FnOk P w K mg base (L2.CX P w) (k + 1) a fd ps (spI K cl C (mkF N (ps.length - 1) g)) := by
  obtain ⟨oc, od, params, dV, kV, doc, pm, an, cdv, ct, osl, rfl, lk, hcd⟩ := Fn
  refine fn_of lk hcd Sc (fun vs H Q E h => ?_) fun A outer s H vs Q E hr h => ?_
  · obtain ⟨F, G, ds, r, x, dx, ws, rfl, _, _, _, _, _, _, _, h1, h2, _⟩ := h
    unfold mkF at h2
    split at h2
    · rename_i e; rw [List.length_cons, h1.length, e]; omega
    · cases h2
  · obtain ⟨F, G, ds, r, x, dx, ws, rfl, hx, fx, gx, sub, frm, dis, ng, h1, h2, post⟩ := h
    unfold mkF at h2
    split at h2
    · rename_i e
      obtain ⟨t, pt, sp⟩ := (body E).ex C hC hcl hna
      refine ⟨t, pt _ ⟨rfl, rfl, rfl, rfl, rfl, rfl, rfl, rfl, hr, takes_of rfl rfl rfl rfl, fun _ _ => Or.inl rfl, passes_of rfl, Or.inl rfl⟩, ?_⟩
      have s0 := S.startI (K := K) (N := N) (x := x) (F := upd F x (insO C dx n [])) sub (fun b o z => by
        by_cases hb : b = x
        · subst hb; rw [upd_same] at z; rw [← z, hx]; unfold insO; simp
        · rw [upd_ne hb] at z; exact frm _ _ z) (fun b o z => by
        by_cases hb : b = x
        · subst hb; exact gx
        · rw [upd_ne hb] at z; exact dis _ _ z) ng h1 (by omega)
      rw [e] at s0
      have hst : (L2.start N (V.ref x :: ws))[0]? = some (some (V.ref x)) := rfl
      cases ho : g [] (.un :: ds.map .val ++ List.replicate (N.length - (ps.length - 1 + 1)) .un) with
      | none => rw [ho] at h2; cases h2
      | some o =>
        rw [ho] at h2
        refine sp F _ G H _ x dx [] [] o fx hst s0 .nil ho _ ?_
        cases o with
        | rt d => cases h2; exact fun σ' G' H' δ' s' g' rv => post G' H' g' s'.sub s'.frm s'.dis s'.ntg rv
        | ex c => cases h2; exact fun G' H' g' h' f' => post G' H' g' h' f'
        | nx δ' => cases h2
        | bk δ' => cases h2
        | ct δ' => cases h2
    · cases h2
end
end FL

set_option Elab.async false
set_option linter.all false
set_option maxRecDepth 100000
set_option maxHeartbeats 2000000
/-! FL23: texts, repeats, in and index of data of any depth. -/
namespace FL
open PySem PySem.Spec PyProof.Rows L2
/-! ### a * b of a text, a list and an int -/
def strRep (z : Str) (n : Int) : Str := if n < 1 then Str.empty else if (n == 1 || z.length == 0) = true then z else ⟨(List.replicate n.toNat z.cps).foldl (· ++ ·) #[]⟩
def strMul : D → D → Option D
  | .str z, .int n => if z.length ≤ 1000 ∧ -1000 ≤ n ∧ n ≤ 1000 then some (.str (strRep z n)) else none
  | _, _ => none
def rStrMul : R2 := fun x y H Q => ∃ z n, x = V.str z ∧ y = V.int n ∧ z.length ≤ 1000 ∧ -1000 ≤ n ∧ n ≤ 1000 ∧ Q (.str (strRep z n)) H
theorem rep_size (a : Array Nat) : ∀ (k : Nat) (acc : Array Nat), ((List.replicate k a).foldl (· ++ ·) acc).size = acc.size + k * a.size
  | 0, acc => by simp
  | k + 1, acc => by
    rw [List.replicate_succ, List.foldl_cons, rep_size a k, Array.size_append, Nat.succ_mul]; omega
theorem op_strMul {X : Cx} : OpR X (binaryOp .Mult) rStrMul := by
  intro pins s σ H x y v u Q I rx ry h
  obtain ⟨z, n, rfl, rfl, h1, h2, h3, q⟩ := h
  obtain ⟨t, rfl⟩ := rx
  obtain ⟨t', rfl⟩ := ry
  have e1 : (decide (n < -(2 ^ 63 : Int)) || decide (n ≥ 2 ^ 63)) = false := by
    rw [decide_eq_false (by omega), decide_eq_false (by omega)]; rfl
  have hm : z.length * n.toNat ≤ 1000 * 1000 := Nat.mul_le_mul h1 (by omega)
  refine PySem.P.mul_str e1 (fun hn _ => ?_) (fun hn _ => ?_) ?_
  · have h4 : (0 : Int) < n := by omega
    have : (1000 : Int) ≤ (2 ^ 63 - 1) / n := by
      rw [Int.le_ediv_iff_mul_le h4]; omega
    omega
  · exact short24 (by omega)
  · unfold strRep at q
    split
    · rename_i hn
      rw [if_pos hn] at q
      exact ⟨by decide, .str Str.empty, H, I.tok _, ⟨_, rfl⟩, q⟩
    · rename_i hn
      rw [if_neg hn] at q
      split
      · rename_i hz
        rw [if_pos hz] at q
        exact ⟨.str z, H, I.tok _, ⟨_, rfl⟩, q⟩
      · rename_i hz
        rw [if_neg hz] at q
        refine ⟨?_, .str _, H, I.tok _, ⟨_, rfl⟩, q⟩
        show ((List.replicate n.toNat z.cps).foldl (· ++ ·) #[]).size ≤ sizeLine
        rw [rep_size]
        have hz' : z.cps.size = z.length := rfl
        have hc : n.toNat * z.cps.size = z.length * n.toNat := by rw [hz', Nat.mul_comm]
        rw [hc]
        exact small6 (by simp; omega)
theorem op2_strMul {K : PySem.W.Frag} : Op2 K rStrMul strMul := by
  refine ⟨fun T F σ G H δ v u a b d s rv ru e Q q => ?_⟩
  unfold strMul at e
  split at e
  · split at e
    · rename_i h
      cases e
      cases rv
      cases ru
      exact ⟨_, _, rfl, rfl, h.1, h.2.1, h.2.2, q G H _ s (Same.refl _) (.str _)⟩
    · cases e
  · cases e
def lstRep : D → D → Option D
  | .lst xs, .int n => if xs.length ≤ 1000 ∧ -1000 ≤ n ∧ n ≤ 1000 then some (.lst (List.replicate n.toNat xs).flatten) else none
  | _, _ => none
theorem RepL.reps {K : PySem.W.Frag} {G : Hp} {vs : List V} {ds : List D} (r : RepL K G vs ds) : ∀ n : Nat, RepL K G (List.replicate n vs).flatten (List.replicate n ds).flatten
  | 0 => .nil
  | n + 1 => by rw [List.replicate_succ, List.replicate_succ, List.flatten_cons, List.flatten_cons]; exact r.append (RepL.reps r n)
theorem op2_lstRep {K : PySem.W.Frag} : Op2 K rRep lstRep := by
  refine ⟨fun T F σ G H δ v u a b d s rv ru e Q q => ?_⟩
  unfold lstRep at e
  split at e
  · split at e
    · rename_i h
      cases e
      cases ru
      cases rv with
      | lst h1 h2 =>
        refine ⟨_, _, _, rfl, rfl, s.sub _ _ h1, by omega, by omega, ?_, fun p hp => ?_⟩
        · rw [h2.length]
          exact small6 (Nat.le_trans (Nat.mul_le_mul h.1 (show _ ≤ 1000 by omega)) (by decide))
        · have gp := s.sub.free hp
          exact q _ _ _ (s.new hp) (same_upd gp) (.lst upd_same ((h2.mono (same_upd gp)).reps _))
    · cases e
  · cases e
def mulA (a b : D) : Option D := (mulD a b).or ((strMul a b).or (lstRep a b))
section
variable {c : SC}
theorem fe_mulA {a b : Expr} {fa fb : M D} {pos : Pos} (ha : FE c a fa) (hb : FE c b fb) : FE c (.BinOp a .Mult b pos) (bin2 mulA fa fb) :=
  fe_op (fun _ _ => op_mul.or (op_strMul.or op_rep)) ((op2_I fun _ _ _ => .int _).or (op2_strMul.or op2_lstRep)) ha hb
/-! ### in, of any depth -/
def rInT (K : PySem.W.Frag) (neg : Bool) : R2 := fun x y H Q => ∃ d ds, Dp K H x d ∧ Dp K H y (.tuple ds) ∧ SeqAt.shaped d = true ∧ SeqAt.shaped (.tuple ds) = true ∧ Q (.bl (if neg then !(ds.any fun z => PyData.eqv z d) else ds.any fun z => PyData.eqv z d)) H
theorem op_inT {X : Cx} (hu : X.A.units + 65 < cLine) : OpR X (compareOp .In) (rInT X.K false) := by
  intro pins s σ H x y v u Q I rx ry h
  obtain ⟨d, ds, hd, he, sd, se, q⟩ := h
  obtain ⟨as, r1⟩ := Dp.reads I d x v hd rx
  obtain ⟨bs, r2⟩ := Dp.reads I (.tuple ds) y u he ry
  exact SeqAt.in_tuple_reads r2 r1 (SeqAt.canLay_of_shaped se) (SeqAt.canLay_of_shaped sd) (room_in_shaped sd hu) ⟨.bl _, H, I, rfl, q⟩
theorem op_notInT {X : Cx} (hu : X.A.units + 65 < cLine) : OpR X (compareOp .NotIn) (rInT X.K true) := by
  intro pins s σ H x y v u Q I rx ry h
  obtain ⟨d, ds, hd, he, sd, se, q⟩ := h
  obtain ⟨as, r1⟩ := Dp.reads I d x v hd rx
  obtain ⟨bs, r2⟩ := Dp.reads I (.tuple ds) y u he ry
  exact SeqAt.notIn_tuple_reads r2 r1 (SeqAt.canLay_of_shaped se) (SeqAt.canLay_of_shaped sd) (room_in_shaped sd hu) ⟨.bl _, H, I, rfl, q⟩
def rSign (neg : Bool) : R2 := fun x y H Q => ∃ (c : Nat) (z : Str), x = .str ⟨#[c]⟩ ∧ y = .str z ∧ Q (.bl (if neg then !decide (c ∈ z.cps.toList) else decide (c ∈ z.cps.toList))) H
def rInL (K : PySem.W.Frag) (neg : Bool) : R2 := fun x y H Q => ∃ d ds, Dp K H x d ∧ Dp K H y (.list ds) ∧ SeqAt.shaped d = true ∧ SeqAt.shaped (.list ds) = true ∧ Q (.bl (if neg then !(ds.any fun z => PyData.eqv z d) else ds.any fun z => PyData.eqv z d)) H
def inE (a b : D) : Option Bool := match b with
  | .lst ys => match toPy a, toPyL ys with
    | some p, some qs => if SeqAt.shaped p && SeqAt.shaped (.list qs) then some (qs.any fun z => PyData.eqv z p) else none
    | _, _ => none
  | .tup ys => match toPy a, toPyL ys with
    | some p, some qs => if SeqAt.shaped p && SeqAt.shaped (.tuple qs) then some (qs.any fun z => PyData.eqv z p) else none
    | _, _ => none
  | .str z => match a with
    | .str x => match x.cps.toList with
      | [k] => some (decide (k ∈ z.cps.toList))
      | _ => none
    | _ => none
  | _ => none
def inX (neg : Bool) (a b : D) : Option D := (inD neg a b).or ((inE a b).map fun k => .bl (if neg then !k else k))
theorem str_one {x : Str} {k : Nat} (h : x.cps.toList = [k]) : x = ⟨#[k]⟩ := by
  cases x with
  | mk a =>
    have : a = #[k] := by
      have := congrArg List.toArray h
      simpa using this
    rw [this]
theorem op2_inE {K : PySem.W.Frag} (neg : Bool) : Op2 K (fun x y H Q => rInL K neg x y H Q ∨ rInT K neg x y H Q ∨ rSign neg x y H Q) (fun a b => (inE a b).map fun k => .bl (if neg then !k else k)) := by
  refine ⟨fun T F σ G H δ v u a b d s rv ru e Q q => ?_⟩
  cases h : inE a b with
  | none => rw [h] at e; cases e
  | some k =>
    rw [h] at e
    cases e
    have q0 := q G H _ s (Same.refl _) (.bl _)
    unfold inE at h
    split at h
    · rename_i ys
      cases h1 : toPy a with
      | none => rw [h1] at h; cases h
      | some p =>
        cases h2 : toPyL ys with
        | none => rw [h1, h2] at h; cases h
        | some qs =>
          rw [h1, h2] at h
          dsimp only at h
          split at h
          · rename_i hs
            cases h
            rw [Bool.and_eq_true] at hs
            cases ru with
            | lst g1 r1 => exact .inl ⟨p, qs, dp_mono s.sub (rv.dp h1), dp_mono s.sub (Rep.dp (d := .lst ys) (.lst g1 r1) (by unfold toPy; rw [h2]; rfl)), hs.1, hs.2, q0⟩
          · cases h
    · rename_i ys
      cases h1 : toPy a with
      | none => rw [h1] at h; cases h
      | some p =>
        cases h2 : toPyL ys with
        | none => rw [h1, h2] at h; cases h
        | some qs =>
          rw [h1, h2] at h
          dsimp only at h
          split at h
          · rename_i hs
            cases h
            rw [Bool.and_eq_true] at hs
            cases ru with
            | tup g1 r1 => exact .inr (.inl ⟨p, qs, dp_mono s.sub (rv.dp h1), dp_mono s.sub (Rep.dp (d := .tup ys) (.tup g1 r1) (by unfold toPy; rw [h2]; rfl)), hs.1, hs.2, q0⟩)
          · cases h
    · split at h
      · split at h
        · rename_i hk
          cases h
          cases rv
          cases ru
          exact .inr (.inr ⟨_, _, by rw [str_one hk], rfl, q0⟩)
        · cases h
      · cases h
    · cases h
theorem In.units65 {X : Cx} (h : In c X) : X.A.units + 65 < cLine := by have := h.room.un; omega
variable {a b : Expr} {fa fb : M D} {pos : Pos}
theorem fe_inX (ha : FE c a fa) (hb : FE c b fb) (hm : behindInMarks .In b = false := by rfl) : FE c (.Compare a [.In] [b] pos) (bin2 (inX false) fa fb) :=
  fe_cmp (fun X h => by have := (op_in_seq (X := X)).or ((op_inD h.units65).or ((op_inT h.units65).or op_in_sign)); rwa [h.K] at this) ((op2_in false).or (op2_inE false)) ha hb hm
theorem fe_notinX (ha : FE c a fa) (hb : FE c b fb) (hm : behindInMarks .NotIn b = false := by rfl) : FE c (.Compare a [.NotIn] [b] pos) (bin2 (inX true) fa fb) :=
  fe_cmp (fun X h => by have := (op_notIn_seq (X := X)).or ((op_notInD h.units65).or ((op_notInT h.units65).or op_notIn_sign)); rwa [h.K] at this) ((op2_in true).or (op2_inE true)) ha hb hm
theorem ft_inX (ha : FE c a fa) (hb : FE c b fb) (hm : behindInMarks .In b = false := by rfl) : FT c (.Compare a [.In] [b] pos) (tst (bin2 (inX false) fa fb)) :=
  ft_cmp (fun X h => by have := (op_in_seq (X := X)).or ((op_inD h.units65).or ((op_inT h.units65).or op_in_sign)); rwa [h.K] at this) ((op2_in false).or (op2_inE false)) ha hb hm
theorem ft_notinX (ha : FE c a fa) (hb : FE c b fb) (hm : behindInMarks .NotIn b = false := by rfl) : FT c (.Compare a [.NotIn] [b] pos) (tst (bin2 (inX true) fa fb)) :=
  ft_cmp (fun X h => by have := (op_notIn_seq (X := X)).or ((op_notInD h.units65).or ((op_notInT h.units65).or op_notIn_sign)); rwa [h.K] at this) ((op2_in true).or (op2_inE true)) ha hb hm
/-! ### methods of texts -/
/-- a method of a text, of one argument -/
structure Mt1 (K : PySem.W.Frag) (r : V → List V → Hp → VK → Prop) (g : Str → D → Option D) : Prop where
  run : ∀ T F σ G H δ z u b d, S (K, T) F σ G H δ → Rep K G u b → g z b = some d → ∀ Q : VK, (∀ G' H' w, S (K, T) F σ G' H' δ → Same G G' → Rep K G' w d → Q w H') → r (.str z) [u] H Q
def smM (g : Str → D → Option D) (fo fe : M D) : M D := bindM fo fun o => match o with
  | .str z => bindM fe fun b => liftO (g z b)
  | _ => fun _ => none
theorem fe_smeth1 {o e : Expr} {fo fe : M D} {name : Str} {id : String} {apos cpos : Pos} {r : V → List V → Hp → VK → Prop} {g : Str → D → Option D} (slot : Slot "str" name id) (hty : typeOf (.builtin id) = pure (.type "method_descriptor")) (hm : ∀ X, In c X → MtR X id r) (hr : Mt1 c.K r g)
    (ho : FE c o fo) (he : FE c e fe)
    (hbase : ∀ env : Env, attributeBase o name env (eval o env) = eval o env := by intro _; rfl)
    (hfew : ∀ env : Env, ((backTo cpos (starEach [e] env)).all (fun x => !x.1) && (backToKw cpos (keywordEach [] env)).all (fun x => x.1.isSome)
      && decide ([e].length + ([] : List Keyword).length + (if ([] : List Keyword).isEmpty then 0 else 1) < 30)) = true := by intro _; rfl)
    (hline : (apos.endLine == cpos.line) = true := by rfl) (hst : ∀ env : Env, starEach [e] env = (false, eval e env) :: starEach [] env := by intro _; rfl) (hplain : ∀ env : Env, (backTo cpos (starEach [] env)).any (·.1) = false := by intro _; rfl) :
    FE c (.Call (.Attribute o name apos) [e] [] cpos) (smM g fo fe) := by
  obtain ⟨to, po, so⟩ := ho.ex
  obtain ⟨te, pe, se⟩ := he.ex
  refine ⟨tBM c.K "str" r to (tCons te tNil), fun X h => ?_, fun F σ G H δ rr s e Q p => ?_⟩
  · have := pe_bm (X := X) (apos := apos) (cpos := cpos) PySem.F.plainAttrs_str slot hty (hm X h) (po X h) (pa_cons (pe X h) pa_nil (hst _)) (hbase _) (hfew _) hline (hst _) (hplain _)
    rwa [h.K] at this
  · refine so.step s e p fun G1 H1 δ1 v d s1 g1 rv e1 p1 => ?_
    cases d with
    | str z =>
      cases rv
      refine ⟨rfl, se.step s1 e1 p1 fun G2 H2 δ2 u b s2 g2 ru e2 p2 => ?_⟩
      obtain ⟨d, hd, rfl⟩ := liftO_eq e2
      exact hr.run _ _ σ G2 H2 δ2 z u b d s2 ru hd Q fun G' H' w s' g' rw' => p2 G' H' w s' g' rw'
    | _ => cases e1
def lstripD (z : Str) : D → Option D
  | .str y => if z.length ≤ 1000000 then some (.str (Txt.lstripChars z y)) else none
  | _ => none
theorem mt1_lstrip {K : PySem.W.Frag} : Mt1 K (fun x xs H Q => ∃ a b, x = .str a ∧ xs = [.str b] ∧ a.length ≤ sizeLine ∧ Q (.str (Txt.lstripChars a b)) H) lstripD := by
  refine ⟨fun T F σ G H δ z u b d s ru e Q q => ?_⟩
  unfold lstripD at e
  split at e
  · split at e
    · rename_i h
      cases e
      cases ru
      exact ⟨_, _, rfl, rfl, small6 h, q G H _ s (Same.refl _) (.str _)⟩
    · cases e
  · cases e
theorem fe_lstrip {o e : Expr} {fo fe : M D} {apos cpos : Pos} (ho : FE c o fo) (he : FE c e fe)
    (hbase : ∀ env : Env, attributeBase o "lstrip" env (eval o env) = eval o env := by intro _; rfl)
    (hfew : ∀ env : Env, ((backTo cpos (starEach [e] env)).all (fun x => !x.1) && (backToKw cpos (keywordEach [] env)).all (fun x => x.1.isSome)
      && decide ([e].length + ([] : List Keyword).length + (if ([] : List Keyword).isEmpty then 0 else 1) < 30)) = true := by intro _; rfl)
    (hline : (apos.endLine == cpos.line) = true := by rfl) (hst : ∀ env : Env, starEach [e] env = (false, eval e env) :: starEach [] env := by intro _; rfl) (hplain : ∀ env : Env, (backTo cpos (starEach [] env)).any (·.1) = false := by intro _; rfl) :
    FE c (.Call (.Attribute o "lstrip" apos) [e] [] cpos) (smM lstripD fo fe) := fe_smeth1 PySem.F.slot_str_lstrip PySem.F.type_str_lstrip (fun X h => mt_lstripChars) mt1_lstrip ho he hbase hfew hline hst hplain
def sindexD (z : Str) : D → Option D
  | .str y => match Builtin.Str.occurrences z y 0 z.length 1 with
    | i :: _ => some (.int (i : Nat))
    | [] => none
  | _ => none
theorem mt1_index {K : PySem.W.Frag} : Mt1 K (fun x xs H Q => ∃ a b i rest, x = .str a ∧ xs = [.str b] ∧ Builtin.Str.occurrences a b 0 a.length 1 = i :: rest ∧ Q (.int (i : Nat)) H) sindexD := by
  refine ⟨fun T F σ G H δ z u b d s ru e Q q => ?_⟩
  unfold sindexD at e
  split at e
  · split at e
    · rename_i h
      cases e
      cases ru
      exact ⟨_, _, _, _, rfl, rfl, h, q G H _ s (Same.refl _) (.int _)⟩
    · cases e
  · cases e
theorem fe_sindex {o e : Expr} {fo fe : M D} {apos cpos : Pos} (ho : FE c o fo) (he : FE c e fe)
    (hbase : ∀ env : Env, attributeBase o "index" env (eval o env) = eval o env := by intro _; rfl)
    (hfew : ∀ env : Env, ((backTo cpos (starEach [e] env)).all (fun x => !x.1) && (backToKw cpos (keywordEach [] env)).all (fun x => x.1.isSome)
      && decide ([e].length + ([] : List Keyword).length + (if ([] : List Keyword).isEmpty then 0 else 1) < 30)) = true := by intro _; rfl)
    (hline : (apos.endLine == cpos.line) = true := by rfl) (hst : ∀ env : Env, starEach [e] env = (false, eval e env) :: starEach [] env := by intro _; rfl) (hplain : ∀ env : Env, (backTo cpos (starEach [] env)).any (·.1) = false := by intro _; rfl) :
    FE c (.Call (.Attribute o "index" apos) [e] [] cpos) (smM sindexD fo fe) := fe_smeth1 PySem.F.slot_str_index PySem.F.type_str_index (fun X h => mt_sindex) mt1_index ho he hbase hfew hline hst hplain
/-! ### str(n), int(text) -/
def strD : List D → Option D
  | [.int i] => if i.natAbs.log2 < 1920 then some (.str (toString i)) else none
  | _ => none
theorem cb_str {K : PySem.W.Frag} : Cb K (fun xs H Q => ∃ i, xs = [V.int i] ∧ i.natAbs.log2 < 1920 ∧ Q (.str (toString i)) H) strD := by
  refine ⟨fun T F σ G H δ vs ds d s rv e Q q => ?_⟩
  unfold strD at e
  split at e
  · split at e
    · rename_i h
      cases e
      cases rv with
      | cons h1 t =>
        cases t
        cases h1
        exact ⟨_, rfl, h, q G H _ s (Same.refl _) (.str _)⟩
    · cases e
  · cases e
theorem fe_str1 {p pos : Pos} {e : Expr} {f : M (List D)} (hm : c.mg "str" = none) (ha : FA c [e] f) (hg : Gb c "str" := by rfl) (he : ∀ env : Env, starEach [e] env = (false, eval e env) :: starEach [] env := by intro _; rfl) :
    FE c (.Call (.Name "str" p) [e] [] pos) (callB strD f) := fe_callTy hm (fun X h => call_str_int) cb_str ha (by decide +kernel) hg (he := he)
def intT : List D → Option D
  | [.str a] => match PySem.intText? a with
    | some n => if a.length ≤ 640 then some (.int n) else none
    | none => none
  | _ => none
def intA (ds : List D) : Option D := (FL.intD ds).or (intT ds)
theorem cb_intA {K : PySem.W.Frag} : Cb K (fun xs H Q => ((∃ i, xs = [V.int i] ∧ Q (.int i) H) ∨ ∃ k, xs = [V.bl k] ∧ Q (.int (if k then 1 else 0)) H) ∨ ∃ a n, xs = [V.str a] ∧ PySem.intText? a = some n ∧ a.length ≤ 640 ∧ Q (.int n) H) intA := by
  refine ⟨fun T F σ G H δ vs ds d s rv e Q q => ?_⟩
  unfold intA at e
  cases h : FL.intD ds with
  | some d' =>
    rw [h, Option.some_or] at e
    cases e
    exact .inl (cb_int.run T F σ G H δ vs ds _ s rv h Q q)
  | none =>
    rw [h, Option.none_or] at e
    unfold intT at e
    split at e
    · split at e
      · split at e
        · rename_i n hn hl
          cases e
          cases rv with
          | cons h1 t =>
            cases t
            cases h1
            exact .inr ⟨_, _, rfl, hn, hl, q G H _ s (Same.refl _) (.int _)⟩
        · cases e
      · cases e
    · cases e
theorem fe_intA {p pos : Pos} {e : Expr} {f : M (List D)} (hm : c.mg "int" = none) (ha : FA c [e] f) (hg : Gb c "int" := by rfl) (he : ∀ env : Env, starEach [e] env = (false, eval e env) :: starEach [] env := by intro _; rfl) :
    FE c (.Call (.Name "int" p) [e] [] pos) (callB intA f) := fe_callTy hm (fun X h => call_int1.or call_int_str) cb_intA ha (by decide +kernel) hg (he := he)
end
end FL

set_option Elab.async false
set_option linter.all false
set_option maxRecDepth 100000
set_option maxHeartbeats 2000000
/-! FL24: methods and classes, out of their texts. -/
namespace FL
open PySem PySem.Spec PyProof.Rows L2
theorem fnOkM {P : Program} {w : World} {K : PySem.W.Frag} {mg : Str → Option Value} {base : Heap} {cl : Nat → Addr} {k : Nat} {x q : Str} {st : Stmt} {a : Addr} {fd : FuncData} {N ps : List Str} {f : Fo} (Fn : Fun K x q st a fd) (Sc : FnScope N ps (defScope st)) (hN : ps.length ≤ N.length)
    (body : ∀ E : XK, FS ⟨P, w, K, mg, base, N, defScope st, k, cl, E, fun _ => true, [], .none, ""⟩ (defBody st) f) : FnOk P w K mg base (L2.CX P w) (k + 1) a fd ps (spD K cl (defF N ps.length f)) := by
  refine Fn.okX Sc (fun vs H Q E h => ?_) (fun cdv A outer s H vs Q E hr h => ?_)
  · obtain ⟨F, G, ds, r, _, _, _, _, h1, h2, _⟩ := h
    unfold defF at h2
    split at h2
    · rename_i q; rw [h1.length, q]
    · cases h2
  · obtain ⟨F, G, ds, r, sub, frm, dis, ng, h1, h2, post⟩ := h
    unfold defF at h2
    split at h2
    · rename_i q
      obtain ⟨t, pt, sp⟩ := (body E).ex
      refine ⟨t, pt _ ⟨rfl, rfl, rfl, rfl, rfl, rfl, rfl, rfl, hr, takes_of rfl rfl rfl rfl, fun _ _ => Or.inl rfl, passes_of rfl, Or.inl rfl⟩, ?_⟩
      have s0 : S (K, []) F (L2.start N vs) G H (startD N ds) := S.start sub frm dis ng h1 (by omega)
      cases ho : f (startD N ds) with
      | none => rw [ho] at h2; cases h2
      | some o =>
        rw [ho] at h2
        refine sp F _ G H _ o s0 ho _ ?_
        cases o with
        | rt d => cases h2; exact fun σ' G' H' δ' v s' g' rv => post G' H' v g' s'.sub s'.frm s'.dis s'.ntg rv
        | nx δ' => cases h2; exact fun σ' G' H' s' g' => post G' H' _ g' s'.sub s'.frm s'.dis s'.ntg .non
        | ex c => cases h2; exact fun G' H' g' h' f' => post G' H' g' h' f'
        | bk δ' => cases h2
        | ct δ' => cases h2
    · cases h2
/-- a class of the text: its address, its facts -/
structure ClsX (K : PySem.W.Frag) (mg : Str → Option Value) (n : Nat) (C : Addr) : Prop where
  at_ : ClsAt K n C
  g : mg (clsName n) = some (.ref C)
  cl : Cls K C
  na : ∀ f ∈ fldN n, NoAttr K C f
theorem ClsX.d {K : PySem.W.Frag} {mg : Str → Option Value} {n : Nat} {C : Addr} (h : ClsX K mg n C) : ClsD K mg n := ⟨C, h.at_, h.g, h.cl, h.na⟩
theorem fnM {P : Program} {w : World} {K : PySem.W.Frag} {mg : Str → Option Value} {base : Heap} {cl : Nat → Addr} {k n : Nat} {x q : Str} {st : Stmt} {a C : Addr} {fd : FuncData} {N ps : List Str} {f : Fo} (Fn : Fun K x q st a fd) (Sc : FnScope N ps (defScope st)) (CX : ClsX K mg n C) (hm : Meth K C x a) (hb : Binds K fd ps []) (hN : ps.length ≤ N.length)
    (body : ∀ E : XK, FS ⟨P, w, K, mg, base, N, defScope st, k, cl, E, fun _ => true, [], .none, ""⟩ (defBody st) f) (hnf : x ∉ fldN n := by decide +kernel) : FnM P w K mg base cl (k + 1) n x (defF N ps.length f) :=
  ⟨⟨C, a, fd, ps, CX.at_, CX.cl, hm, hb, fnOkM Fn Sc hN body⟩, hnf⟩
theorem fnC {P : Program} {w : World} {K : PySem.W.Frag} {mg : Str → Option Value} {base : Heap} {cl : Nat → Addr} {k n nd : Nat} {q : Str} {st : Stmt} {a C : Addr} {fd : FuncData} {N ps : List Str} {g : List D → Fo} (Fn : Fun K "__init__" q st a fd) (Sc : FnScope N ps (defScope st)) (hN : ps.length ≤ N.length) (hp : 1 ≤ ps.length) (CX : ClsX K mg n C) (M : Mk K C a) (hb : Binds K fd ps [])
    (body : ∀ E : XK, FSI ⟨P, w, K, mg, base, N, defScope st, k, cl, E, fun _ => true, [], .none, ""⟩ n (defBody st) g) : FnI P w K mg base cl (k + 1) n nd [] (mkF N (ps.length - 1) g) := by
  refine ⟨C, a, fd, ps, [], [], CX.at_, CX.g, M, hb, .nil, fun _ => .nil, ?_⟩
  obtain ⟨oc, od, kV, doc, pm, an, cdv, ct, osl, e, lk, hcd⟩ := Fn.ex
  exact fnI ⟨oc, od, _, _, kV, doc, pm, an, cdv, ct, osl, e, lk, hcd⟩ Sc hN hp CX.at_ CX.cl CX.na body
end FL

set_option Elab.async false
set_option linter.all false
set_option maxRecDepth 100000
set_option maxHeartbeats 2000000
/-! FL25: a law's end; going on through a body. -/
namespace FL
open PySem PySem.Spec PyProof.Rows L2
theorem toldK_of {nl : List (Nat × Str)} {lt : List (Lam × M D)} {f m : M D} {L : Lam} {δ : De} {j : Nat} {d : D} (hf : f δ = some (.ok (.fn L) δ)) (hj : L.ix = j) (hl : lt[j]? = some (L, m)) (h : toldM nl m δ = some (.ok d δ)) : toldK nl lt f δ = some (.ok d δ) := by
  unfold toldK
  rw [bindM_ok hf]
  dsimp only
  rw [hj, hl]
  dsimp only
  rw [if_pos rfl]
  exact h
/-- the law's last list: each lambda is told as it is to be -/
theorem wrong_nil {i w : Nat} {nl : List (Nat × Str)} {lt : List (Lam × M D)} {δ : De} {Wr : List D} (hw : δ[w]? = some (.val (.lst Wr))) (hi : ownAt δ i = none) (hil : i < δ.length) (hl : Wr.length < 1000000)
    (h : ∀ d ∈ Wr, ∃ (L : Lam) (s : Str) (j : Nat) (m : M D), d = .tup [.fn L, .str s] ∧ L.ix = j ∧ lt[j]? = some (L, m) ∧ eqB (.str s) (.str s) = some true ∧ ∀ δ, toldM nl m δ = some (.ok (.str s) δ)) :
    lcM [i] (bName i) (tst (bin2 neD (toldK nl lt (bin2 ixD (varM i) (pureM (.int 0)))) (bin2 ixD (varM i) (pureM (.int 1))))) (varM i) (seqM (varM w)) δ = some (.ok (.lst []) δ) := by
  have := lcM_filter (vs := [i]) (bd := bName i) (tt := tst (bin2 neD (toldK nl lt (bin2 ixD (varM i) (pureM (.int 0)))) (bin2 ixD (varM i) (pureM (.int 1))))) (fe := varM i) (p := fun _ => false) (g := id) (items := seqM (varM w)) (δ := δ) (δ1 := δ) (ds := Wr)
    (by unfold seqM; rw [bindM_ok (var_of hw)]; rfl) hl (by unfold noOwn; simp [hi]) fun d hd => by
    obtain ⟨δ3, b1, rfl, b2, b3⟩ := bind1 (v := i) (d := d) (δ := δ)
    refine ⟨_, b1, b2, b3, ?_, fun h => by cases h⟩
    have v14 : (δ.set i (.val d))[i]? = some (.val d) := List.getElem?_set_self hil
    obtain ⟨L, s, j, m, rfl, h1, h2, h3, h4⟩ := h d hd
    exact ne_no (toldK_of (bin2_of (var_of v14) rfl rfl) h1 h2 (h4 _)) (bin2_of (var_of v14) rfl rfl) h3
  rw [this, List.filter_eq_nil_iff.mpr (fun a _ h => by cases h)]; rfl
theorem lst_cons {α : Type} {P : α → Prop} {a : α} {l : List α} (h : P a) (t : ∀ d ∈ l, P d) : ∀ d ∈ a :: l, P d := fun d hd => by
  rcases List.mem_cons.mp hd with e | e
  · rw [e]; exact h
  · exact t d e
theorem lst_nil {α : Type} {P : α → Prop} : ∀ d ∈ ([] : List α), P d := fun d hd => by cases hd
theorem mul_ok {i j : Int} (h : -(18446744073709551616) < i ∧ i < 18446744073709551616) : mulD (.int i) (.int j) = some (.int (i * j)) := if_pos (by unfold CMul; rw [show (2 : Int) ^ 64 = 18446744073709551616 by decide]; exact .inl h)
theorem mul_ok' {i j : Int} (h : -(18446744073709551616) < j ∧ j < 18446744073709551616) : mulD (.int i) (.int j) = some (.int (i * j)) := if_pos (by unfold CMul; rw [show (2 : Int) ^ 64 = 18446744073709551616 by decide]; exact .inr h)
/-- where a law's body leaves: what the end asks of the state -/
def NyP (P : De → Prop) (f : Fo) (δ : De) : Prop := ∃ δ', f δ = some (.nx δ') ∧ P δ'
theorem ny_seq {P : De → Prop} {f g : Fo} {δ δ' : De} (h : f δ = some (.nx δ')) (k : NyP P g δ') : NyP P (seqS f g) δ := by
  obtain ⟨x, hx, r⟩ := k
  exact ⟨x, by rw [seqS_nx h]; exact hx, r⟩
theorem ny_rw {P : De → Prop} {f g : Fo} {δ δ' : De} (h : f δ = g δ') (k : NyP P g δ') : NyP P f δ := by
  obtain ⟨x, hx, r⟩ := k
  exact ⟨x, by rw [h]; exact hx, r⟩
theorem ny_end {P : De → Prop} {f : Fo} {δ δ' : De} (h : f δ = some (.nx δ')) (k : P δ') : NyP P f δ := ⟨δ', h, k⟩
theorem un1_of {g : D → Option D} {m : M D} {x d : D} {δ δ1 : De} (h1 : m δ = some (.ok x δ1)) (h2 : g x = some d) : un1 g m δ = some (.ok d δ1) := by
  unfold un1; rw [bindM_ok h1, h2]; rfl
theorem meth0_of {n : Nat} {f : DF} {m : M D} {ds : List D} {d : D} {δ δ1 : De} (h1 : m δ = some (.ok (.ins n ds) δ1)) (h2 : f [.ins n ds] = some (.ret d)) : methM n f m (pureM []) δ = some (.ok d δ1) := by
  unfold methM
  rw [bindM_ok h1]
  dsimp only
  rw [if_pos rfl]
  show resM (f [.ins n ds]) δ1 = _
  rw [h2]; rfl
theorem meth_of {n : Nat} {f : DF} {m : M D} {a : M (List D)} {ds es : List D} {d : D} {δ δ1 δ2 : De} (h1 : m δ = some (.ok (.ins n ds) δ1)) (ha : a δ1 = some (.ok es δ2)) (h2 : f (.ins n ds :: es) = some (.ret d)) : methM n f m a δ = some (.ok d δ2) := by
  unfold methM
  rw [bindM_ok h1]
  dsimp only
  rw [if_pos rfl, bindM_ok ha, h2]; rfl
theorem tup_of {m : M (List D)} {ds : List D} {δ δ1 : De} (h : m δ = some (.ok ds δ1)) (hl : ds.length ≤ 1000000) : tupM m δ = some (.ok (.tup ds) δ1) := by
  unfold tupM; rw [bindM_ok h, if_pos hl]; rfl
theorem if_yes {m : M Bool} {f g : Fo} {δ δ1 : De} (h : m δ = some (.ok true δ1)) : thenS m (fun k => if k then f else g) δ = f δ1 := by rw [thenS_ok h]; rfl
theorem if_not {m : M Bool} {f g : Fo} {δ δ1 : De} (h : m δ = some (.ok false δ1)) : thenS m (fun k => if k then f else g) δ = g δ1 := by rw [thenS_ok h]; rfl
theorem chain_of {g h : D → D → Option D} {a b e : M D} {x y z : D} {p q : Bool} {δ δ1 δ2 δ3 : De} (h1 : a δ = some (.ok x δ1)) (h2 : b δ1 = some (.ok y δ2)) (hg : g x y = some (.bl true)) (h3 : e δ2 = some (.ok z δ3)) (hh : h y z = some (.bl q)) : tst (chainM g h a b e) δ = some (.ok q δ3) := by
  unfold tst chainM
  have e1 : (FL.bindM a fun x => FL.bindM b fun y => FL.bindM (liftO (g x y)) fun z => FL.bindM (liftO (toB z)) fun k => if k then FL.bindM e fun w => liftO (h y w) else pureM (.bl false)) δ = some (.ok (.bl q) δ3) := by
    rw [bindM_ok h1, bindM_ok h2, hg]
    show FL.bindM e (fun w => liftO (h y w)) δ2 = _
    rw [bindM_ok h3, hh]; rfl
  rw [bindM_ok e1]; rfl
end FL

set_option Elab.async false
set_option linter.all false
set_option maxRecDepth 100000
set_option maxHeartbeats 2000000
/-! FL26: more of going on. -/
namespace FL
open PySem PySem.Spec PyProof.Rows L2
theorem chain_ok {g h : D → D → Option D} {a b e : M D} {x y z : D} {q : Bool} {δ δ1 δ2 δ3 : De} (h1 : a δ = some (.ok x δ1)) (h2 : b δ1 = some (.ok y δ2)) (hg : g x y = some (.bl true)) (h3 : e δ2 = some (.ok z δ3)) (hh : h y z = some (.bl q)) : tst (chainM g h a b e) δ = some (.ok q δ3) := chain_of (p := true) h1 h2 hg h3 hh
theorem fld_of {n j : Nat} {m : M D} {ds : List D} {d : D} {δ δ1 : De} (h1 : m δ = some (.ok (.ins n ds) δ1)) (h2 : ds[j]? = some d) : un1 (fldD n j) m δ = some (.ok d δ1) := un1_of h1 (by unfold fldD; dsimp only; rw [if_pos rfl]; exact h2)
theorem call_ex {f : DF} {m : M (List D)} {ds : List D} {k : Nat} {δ δ1 : De} (h1 : m δ = some (.ok ds δ1)) (h2 : f ds = some (.ex k)) : callM f m δ = some (.ex k) := by
  unfold callM; rw [bindM_ok h1]; show resM (f ds) δ1 = _; rw [h2]; rfl
theorem thenS_ex {α : Type} {m : M α} {k : α → Fo} {δ : De} {n : Nat} (h : m δ = some (.ex n)) : thenS m k δ = some (.ex n) := by unfold thenS; rw [h]
theorem told_ok {nl : List (Nat × Str)} {m : M D} {δ δ' : De} {d : D} (h : m (hideOwn δ) = some (.ok d δ')) : toldM nl m δ = some (.ok d δ) := by unfold toldM; rw [h]
theorem roll_of {i : Nat} {f : M D} {m x y z : Int} {δ : De} (hm : 0 < m ∧ m < 1073741824) (hf : f δ = some (.ok (.int m) δ)) (h : ownAt δ i = some [.int x, .int y, .int z]) :
    ∃ r x' y' z' : Int, 0 ≤ r ∧ r < m ∧ rollM i f δ = some (.ok (.int r) (δ.set i (.own [.int x', .int y', .int z']))) := by
  refine ⟨(rollF x y z m).1, (rollF x y z m).2.1, (rollF x y z m).2.2.1, (rollF x y z m).2.2.2, rollF_lo x y z m hm.1, rollF_hi x y z m hm.1, ?_⟩
  unfold rollM
  rw [h]
  dsimp only
  rw [bindM_ok hf]
  unfold rollK
  rw [h]
  dsimp only
  rw [if_pos hm]
theorem chain_no {g h : D → D → Option D} {a b e : M D} {x y : D} {δ δ1 δ2 : De} (h1 : a δ = some (.ok x δ1)) (h2 : b δ1 = some (.ok y δ2)) (hg : g x y = some (.bl false)) : tst (chainM g h a b e) δ = some (.ok false δ2) := by
  unfold tst chainM
  have e1 : (FL.bindM a fun x => FL.bindM b fun y => FL.bindM (liftO (g x y)) fun z => FL.bindM (liftO (toB z)) fun k => if k then FL.bindM e fun w => liftO (h y w) else pureM (.bl false)) δ = some (.ok (.bl false) δ2) := by
    rw [bindM_ok h1, bindM_ok h2, hg]
    rfl
  rw [bindM_ok e1]; rfl
theorem or_2 {f g : M Bool} {δ : De} {b : Bool} (h1 : f δ = some (.ok false δ)) (h2 : g δ = some (.ok b δ)) : orT f g δ = some (.ok b δ) := by
  unfold orT
  show FL.bindM f _ δ = _
  rw [bindM_ok h1]
  exact h2
end FL

set_option Elab.async false
set_option linter.all false
set_option maxRecDepth 100000
set_option maxHeartbeats 2000000
namespace V
open PySem PySem.Spec PyProof.Rows L2 FL
def topS (i : Nat) : Stmt := PySem.Challenge.pw_voicewright_k01_notes_and_spellings.main.body.getD i (.Pass ⟨0, 0, 0, 0⟩)
structure TX (K : PySem.W.Frag) (mg : Str → Option Value) (cl : Nat → Addr) : Prop where
  b_abs : mg "abs" = none
  b_int : mg "int" = none
  b_len : mg "len" = none
  b_range : mg "range" = none
  b_sorted : mg "sorted" = none
  b_str : mg "str" = none
  b_tuple : mg "tuple" = none
  c_LETTERS : Const K mg "LETTERS" (.str "cdefgab")
  c_MOST : Const K mg "MOST" (.int 120)
  c_STEPS : Const K mg "STEPS" (.tup [.int 0, .int 2, .int 4, .int 5, .int 7, .int 9, .int 11])
  k_Spelled : ClsD K mg 0
  x_BadNote : ExcC K mg "BadNote" (cl 1)
  x_BadText : ExcC K mg "BadText" (cl 7)
abbrev s_check_note : Stmt := topS 15
abbrev s_class_of : Stmt := topS 16
abbrev s_octave_of : Stmt := topS 17
abbrev s_plain_steps : Stmt := topS 18
abbrev s_Spelled : Stmt := inClass (topS 20) 0
abbrev s_Spelled_place : Stmt := inClass (topS 20) 2
abbrev s_Spelled_shown : Stmt := inClass (topS 20) 3
abbrev s_Spelled_told : Stmt := inClass (topS 20) 4
abbrev s__law_dice : Stmt := topS 27
abbrev s_steps_of : Stmt := topS 19
abbrev s_turned : Stmt := topS 25
abbrev s_Spelled_note : Stmt := inClass (topS 20) 1
abbrev s_read_note : Stmt := topS 21
abbrev s_spellings : Stmt := topS 22
abbrev s_apart : Stmt := topS 23
abbrev s_moved : Stmt := topS 24
abbrev s_law : Stmt := topS 31
abbrev s__law_roll : Stmt := topS 28
abbrev s__law_rounds : Stmt := topS 29
abbrev s__law_told : Stmt := topS 30
theorem sc_check_note : FnScope ["note"] ["note"] (defScope s_check_note) := ⟨rfl, rfl, rfl, by decide +kernel, rfl, by decide +kernel, by decide +kernel⟩
def b_check_note : Fo := (seqS (thenS (bindM (tst (chainM leD leD (pureM (.int 0)) (varM 0) (pureM (.int 120)))) fun k => pureM (!k)) fun k => if k then (fun _ => some (.ex 1)) else nxS) (thenS (varM 0) fun d _ => some (.rt d)))
def F_check_note : DF := defF ["note"] 1 b_check_note
theorem fs_check_note {P : Program} {w : World} {K : PySem.W.Frag} {mg : Str → Option Value} {base : Heap} {cl : Nat → Addr} (T : TX K mg cl)  (E : XK) : FS ⟨P, w, K, mg, base, ["note"], defScope s_check_note, 0, cl, E, fun _ => true, [], .none, ""⟩ (defBody s_check_note) b_check_note :=
  (fs_cons (fs_if (ft_not (ft_lele fe_int (fe_var 0) (fe_const T.c_MOST))) (fs_one (fs_raise 1 T.x_BadNote)) fs_nil) (fs_one (fs_ret (fe_var 0))))
theorem fn_check_note {P : Program} {w : World} {K : PySem.W.Frag} {mg : Str → Option Value} {base : Heap} {cl : Nat → Addr} {a : Addr} {fd : FuncData} (T : TX K mg cl)  (Fn : Fun K "check_note" "check_note" s_check_note a fd) (hm : mg "check_note" = some (.ref a)) (hb : Binds K fd ["note"] []) : FnD P w K mg base cl 1 "check_note" F_check_note :=
  fnD Fn sc_check_note hm hb (by decide) (fs_check_note T )
theorem sc_class_of : FnScope ["note"] ["note"] (defScope s_class_of) := ⟨rfl, rfl, rfl, by decide +kernel, rfl, by decide +kernel, by decide +kernel⟩
def b_class_of : Fo := (thenS (bin2 modD (varM 0) (pureM (.int 12))) fun d _ => some (.rt d))
def F_class_of : DF := defF ["note"] 1 b_class_of
theorem fs_class_of {P : Program} {w : World} {K : PySem.W.Frag} {mg : Str → Option Value} {base : Heap} {cl : Nat → Addr} (T : TX K mg cl)  (E : XK) : FS ⟨P, w, K, mg, base, ["note"], defScope s_class_of, 0, cl, E, fun _ => true, [], .none, ""⟩ (defBody s_class_of) b_class_of :=
  (fs_one (fs_ret (fe_mod (fe_var 0) fe_int)))
theorem fn_class_of {P : Program} {w : World} {K : PySem.W.Frag} {mg : Str → Option Value} {base : Heap} {cl : Nat → Addr} {a : Addr} {fd : FuncData} (T : TX K mg cl)  (Fn : Fun K "class_of" "class_of" s_class_of a fd) (hm : mg "class_of" = some (.ref a)) (hb : Binds K fd ["note"] []) : FnD P w K mg base cl 1 "class_of" F_class_of :=
  fnD Fn sc_class_of hm hb (by decide) (fs_class_of T )
theorem sc_octave_of : FnScope ["note"] ["note"] (defScope s_octave_of) := ⟨rfl, rfl, rfl, by decide +kernel, rfl, by decide +kernel, by decide +kernel⟩
def b_octave_of : Fo := (thenS (bin2 fdivD (varM 0) (pureM (.int 12))) fun d _ => some (.rt d))
def F_octave_of : DF := defF ["note"] 1 b_octave_of
theorem fs_octave_of {P : Program} {w : World} {K : PySem.W.Frag} {mg : Str → Option Value} {base : Heap} {cl : Nat → Addr} (T : TX K mg cl)  (E : XK) : FS ⟨P, w, K, mg, base, ["note"], defScope s_octave_of, 0, cl, E, fun _ => true, [], .none, ""⟩ (defBody s_octave_of) b_octave_of :=
  (fs_one (fs_ret (fe_fdiv (fe_var 0) fe_int)))
theorem fn_octave_of {P : Program} {w : World} {K : PySem.W.Frag} {mg : Str → Option Value} {base : Heap} {cl : Nat → Addr} {a : Addr} {fd : FuncData} (T : TX K mg cl)  (Fn : Fun K "octave_of" "octave_of" s_octave_of a fd) (hm : mg "octave_of" = some (.ref a)) (hb : Binds K fd ["note"] []) : FnD P w K mg base cl 1 "octave_of" F_octave_of :=
  fnD Fn sc_octave_of hm hb (by decide) (fs_octave_of T )
theorem sc_plain_steps : FnScope ["letter", "octave"] ["letter", "octave"] (defScope s_plain_steps) := ⟨rfl, rfl, rfl, by decide +kernel, rfl, by decide +kernel, by decide +kernel⟩
def b_plain_steps : Fo := (thenS (bin2 addD (bin2 mulD (pureM (.int 12)) (varM 1)) (bin2 ixD (pureM (.tup [.int 0, .int 2, .int 4, .int 5, .int 7, .int 9, .int 11])) (varM 0))) fun d _ => some (.rt d))
def F_plain_steps : DF := defF ["letter", "octave"] 2 b_plain_steps
theorem fs_plain_steps {P : Program} {w : World} {K : PySem.W.Frag} {mg : Str → Option Value} {base : Heap} {cl : Nat → Addr} (T : TX K mg cl)  (E : XK) : FS ⟨P, w, K, mg, base, ["letter", "octave"], defScope s_plain_steps, 0, cl, E, fun _ => true, [], .none, ""⟩ (defBody s_plain_steps) b_plain_steps :=
  (fs_one (fs_ret (fe_add (fe_mul fe_int (fe_var 1)) (fe_ix (fe_const T.c_STEPS) (fe_var 0)))))
theorem fn_plain_steps {P : Program} {w : World} {K : PySem.W.Frag} {mg : Str → Option Value} {base : Heap} {cl : Nat → Addr} {a : Addr} {fd : FuncData} (T : TX K mg cl)  (Fn : Fun K "plain_steps" "plain_steps" s_plain_steps a fd) (hm : mg "plain_steps" = some (.ref a)) (hb : Binds K fd ["letter", "octave"] []) : FnD P w K mg base cl 1 "plain_steps" F_plain_steps :=
  fnD Fn sc_plain_steps hm hb (by decide) (fs_plain_steps T )
theorem sc_Spelled : FnScope ["self", "letter", "signs", "octave"] ["self", "letter", "signs", "octave"] (defScope s_Spelled) := ⟨rfl, rfl, rfl, by decide +kernel, rfl, by decide +kernel, by decide +kernel⟩
def g_Spelled : List D → Fo := raiI (orT (bindM (tst (chainM leD ltD (pureM (.int 0)) (varM 1) (pureM (.int 7)))) fun k => pureM (!k)) (bindM (tst (chainM leD leD (un1 negD (pureM (.int 2))) (varM 2) (pureM (.int 2)))) fun k => pureM (!k))) 1 (putI 0 0 (varM 1) (putI 0 1 (varM 2) (putI 0 2 (varM 3) (frzI 0 nxS))))
def F_Spelled : DF := mkF ["self", "letter", "signs", "octave"] 3 g_Spelled
theorem fs_Spelled {P : Program} {w : World} {K : PySem.W.Frag} {mg : Str → Option Value} {base : Heap} {cl : Nat → Addr} (T : TX K mg cl)  (E : XK) : FSI ⟨P, w, K, mg, base, ["self", "letter", "signs", "octave"], defScope s_Spelled, 0, cl, E, fun _ => true, [], .none, ""⟩ 0 (defBody s_Spelled) g_Spelled :=
  (fi_rai (ft_w (fw_or (ft_not (ft_lelt fe_int (fe_var 1) fe_int)) (fw_or1 (ft_not (ft_lele (fe_neg fe_int) (fe_var 2) fe_int))))) (fs_one (fs_raise 1 T.x_BadNote)) (fi_put 0 0 (fe_var 1) (fi_put 0 1 (fe_var 2) (fi_put 0 2 (fe_var 3) (fi_frz fs_nil)))))
theorem fn_Spelled {P : Program} {w : World} {K : PySem.W.Frag} {mg : Str → Option Value} {base : Heap} {cl : Nat → Addr} {a C : Addr} {fd : FuncData} (T : TX K mg cl)  (Fn : Fun K "__init__" "Spelled.__init__" s_Spelled a fd) (CX : ClsX K mg 0 C) (M : Mk K C a) (hb : Binds K fd ["self", "letter", "signs", "octave"] []) : FnI P w K mg base cl 1 0 0 [] F_Spelled :=
  fnC Fn sc_Spelled (by decide) (by decide) CX M hb (fs_Spelled T )
theorem sc_Spelled_place : FnScope ["self"] ["self"] (defScope s_Spelled_place) := ⟨rfl, rfl, rfl, by decide +kernel, rfl, by decide +kernel, by decide +kernel⟩
def b_Spelled_place : Fo := (thenS (bin2 addD (bin2 mulD (pureM (.int 7)) (un1 (fldD 0 2) (varM 0))) (un1 (fldD 0 0) (varM 0))) fun d _ => some (.rt d))
def F_Spelled_place : DF := defF ["self"] 1 b_Spelled_place
theorem fs_Spelled_place {P : Program} {w : World} {K : PySem.W.Frag} {mg : Str → Option Value} {base : Heap} {cl : Nat → Addr} (T : TX K mg cl)  (E : XK) : FS ⟨P, w, K, mg, base, ["self"], defScope s_Spelled_place, 0, cl, E, fun _ => true, [], .none, ""⟩ (defBody s_Spelled_place) b_Spelled_place :=
  (fs_one (fs_ret (fe_add (fe_mul fe_int (fe_fld 0 2 T.k_Spelled (fe_var 0))) (fe_fld 0 0 T.k_Spelled (fe_var 0)))))
theorem fn_Spelled_place {P : Program} {w : World} {K : PySem.W.Frag} {mg : Str → Option Value} {base : Heap} {cl : Nat → Addr} {a C : Addr} {fd : FuncData} (T : TX K mg cl)  (Fn : Fun K "place" "Spelled.place" s_Spelled_place a fd) (CX : ClsX K mg 0 C) (hm : Meth K C "place" a) (hb : Binds K fd ["self"] []) : FnM P w K mg base cl 1 0 "place" F_Spelled_place :=
  fnM Fn sc_Spelled_place CX hm hb (by decide) (fs_Spelled_place T )
theorem sc_Spelled_shown : FnScope ["self"] ["self"] (defScope s_Spelled_shown) := ⟨rfl, rfl, rfl, by decide +kernel, rfl, by decide +kernel, by decide +kernel⟩
def b_Spelled_shown : Fo := (thenS (tupM (consM (un1 (fldD 0 0) (varM 0)) (consM (un1 (fldD 0 1) (varM 0)) (consM (un1 (fldD 0 2) (varM 0)) (pureM []))))) fun d _ => some (.rt d))
def F_Spelled_shown : DF := defF ["self"] 1 b_Spelled_shown
theorem fs_Spelled_shown {P : Program} {w : World} {K : PySem.W.Frag} {mg : Str → Option Value} {base : Heap} {cl : Nat → Addr} (T : TX K mg cl)  (E : XK) : FS ⟨P, w, K, mg, base, ["self"], defScope s_Spelled_shown, 0, cl, E, fun _ => true, [], .none, ""⟩ (defBody s_Spelled_shown) b_Spelled_shown :=
  (fs_one (fs_ret (fe_tup (fa_cons (fe_fld 0 0 T.k_Spelled (fe_var 0)) (fa_cons (fe_fld 0 1 T.k_Spelled (fe_var 0)) (fa_cons (fe_fld 0 2 T.k_Spelled (fe_var 0)) fa_nil))))))
theorem fn_Spelled_shown {P : Program} {w : World} {K : PySem.W.Frag} {mg : Str → Option Value} {base : Heap} {cl : Nat → Addr} {a C : Addr} {fd : FuncData} (T : TX K mg cl)  (Fn : Fun K "shown" "Spelled.shown" s_Spelled_shown a fd) (CX : ClsX K mg 0 C) (hm : Meth K C "shown" a) (hb : Binds K fd ["self"] []) : FnM P w K mg base cl 1 0 "shown" F_Spelled_shown :=
  fnM Fn sc_Spelled_shown CX hm hb (by decide) (fs_Spelled_shown T )
theorem sc_Spelled_told : FnScope ["self", "mark"] ["self"] (defScope s_Spelled_told) := ⟨rfl, rfl, rfl, by decide +kernel, rfl, by decide +kernel, by decide +kernel⟩
def b_Spelled_told : Fo := (seqS (thenS (iteM (tst (bin2 gtD (un1 (fldD 0 1) (varM 0)) (pureM (.int 0)))) (pureM (.str "#")) (pureM (.str "-"))) fun d δ => some (.nx (δ.set 1 (.val d)))) (thenS (bin2 addD (bin2 addD (bin2 ixD (pureM (.str "cdefgab")) (un1 (fldD 0 0) (varM 0))) (bin2 mulA (varM 1) (callB absD (consM (un1 (fldD 0 1) (varM 0)) (pureM []))))) (callB strD (consM (un1 (fldD 0 2) (varM 0)) (pureM [])))) fun d _ => some (.rt d)))
def F_Spelled_told : DF := defF ["self", "mark"] 1 b_Spelled_told
theorem fs_Spelled_told {P : Program} {w : World} {K : PySem.W.Frag} {mg : Str → Option Value} {base : Heap} {cl : Nat → Addr} (T : TX K mg cl)  (E : XK) : FS ⟨P, w, K, mg, base, ["self", "mark"], defScope s_Spelled_told, 0, cl, E, fun _ => true, [], .none, ""⟩ (defBody s_Spelled_told) b_Spelled_told :=
  (fs_cons (fs_set 1 sc_Spelled_told.nd (fe_ite (ft_gt (fe_fld 0 1 T.k_Spelled (fe_var 0)) fe_int) fe_str fe_str)) (fs_one (fs_ret (fe_add (fe_add (fe_ix (fe_const T.c_LETTERS) (fe_fld 0 0 T.k_Spelled (fe_var 0))) (fe_mulA (fe_var 1) (fe_abs T.b_abs (fa_cons (fe_fld 0 1 T.k_Spelled (fe_var 0)) fa_nil)))) (fe_str1 T.b_str (fa_cons (fe_fld 0 2 T.k_Spelled (fe_var 0)) fa_nil))))))
theorem fn_Spelled_told {P : Program} {w : World} {K : PySem.W.Frag} {mg : Str → Option Value} {base : Heap} {cl : Nat → Addr} {a C : Addr} {fd : FuncData} (T : TX K mg cl)  (Fn : Fun K "told" "Spelled.told" s_Spelled_told a fd) (CX : ClsX K mg 0 C) (hm : Meth K C "told" a) (hb : Binds K fd ["self"] []) : FnM P w K mg base cl 1 0 "told" F_Spelled_told :=
  fnM Fn sc_Spelled_told CX hm hb (by decide) (fs_Spelled_told T )
theorem sc__law_dice : FnScope ["cell"] ["cell"] (defScope s__law_dice) := ⟨rfl, rfl, rfl, by decide +kernel, rfl, by decide +kernel, by decide +kernel⟩
def b__law_dice : Fo := (seqS (thenS (tst (chainM ltD ltD (bin2 subD (pureM (.int 0)) (pureM (.int 10))) (varM 0) (pureM (.int 10)))) fun k => if k then (thenS (lstM (consM (callB absD (consM (varM 0) (pureM []))) (consM (pureM (.int 0)) (consM (pureM (.int 2)) (pureM []))))) fun d _ => some (.rt d)) else nxS) (thenS (lstM (consM (varM 0) (consM (bin2 addD (pureM (.int 1)) (bin2 modD (callB intD (consM (varM 0) (pureM []))) (pureM (.int 1009)))) (consM (callB intD (consM (bin2 geD (varM 0) (bin2 powD (pureM (.int 10)) (pureM (.int 18)))) (pureM []))) (pureM []))))) fun d _ => some (.rt d)))
def F__law_dice : DF := defF ["cell"] 1 b__law_dice
theorem fs__law_dice {P : Program} {w : World} {K : PySem.W.Frag} {mg : Str → Option Value} {base : Heap} {cl : Nat → Addr} (T : TX K mg cl)  (E : XK) : FS ⟨P, w, K, mg, base, ["cell"], defScope s__law_dice, 0, cl, E, fun _ => true, [], .none, ""⟩ (defBody s__law_dice) b__law_dice :=
  (fs_cons (fs_if (ft_ltlt (fe_sub fe_int fe_int) (fe_var 0) fe_int) (fs_one (fs_ret (fe_lst (fa_cons (fe_abs T.b_abs (fa_cons (fe_var 0) fa_nil)) (fa_cons fe_int (fa_cons fe_int fa_nil)))))) fs_nil) (fs_one (fs_ret (fe_lst (fa_cons (fe_var 0) (fa_cons (fe_add fe_int (fe_mod (fe_int1 T.b_int (fa_cons (fe_var 0) fa_nil)) fe_int)) (fa_cons (fe_int1 T.b_int (fa_cons (fe_ge (fe_var 0) (fe_pow fe_int fe_int)) fa_nil)) fa_nil)))))))
theorem fn__law_dice {P : Program} {w : World} {K : PySem.W.Frag} {mg : Str → Option Value} {base : Heap} {cl : Nat → Addr} {a : Addr} {fd : FuncData} (T : TX K mg cl)  (Fn : Fun K "_law_dice" "_law_dice" s__law_dice a fd) (hm : mg "_law_dice" = some (.ref a)) (hb : Binds K fd ["cell"] []) : FnD P w K mg base cl 1 "_law_dice" F__law_dice :=
  fnD Fn sc__law_dice hm hb (by decide) (fs__law_dice T )
theorem sc_steps_of : FnScope ["one"] ["one"] (defScope s_steps_of) := ⟨rfl, rfl, rfl, by decide +kernel, rfl, by decide +kernel, by decide +kernel⟩
def b_steps_of : Fo := (thenS (bin2 addD (callM F_plain_steps (consM (un1 (fldD 0 0) (varM 0)) (consM (un1 (fldD 0 2) (varM 0)) (pureM [])))) (un1 (fldD 0 1) (varM 0))) fun d _ => some (.rt d))
def F_steps_of : DF := defF ["one"] 1 b_steps_of
theorem fs_steps_of {P : Program} {w : World} {K : PySem.W.Frag} {mg : Str → Option Value} {base : Heap} {cl : Nat → Addr} (T : TX K mg cl) (d_plain_steps : FnD P w K mg base cl 1 "plain_steps" F_plain_steps) (E : XK) : FS ⟨P, w, K, mg, base, ["one"], defScope s_steps_of, 1, cl, E, fun _ => true, [], .none, ""⟩ (defBody s_steps_of) b_steps_of :=
  (fs_one (fs_ret (fe_add (fe_call d_plain_steps (fa_cons (fe_fld 0 0 T.k_Spelled (fe_var 0)) (fa_cons (fe_fld 0 2 T.k_Spelled (fe_var 0)) fa_nil))) (fe_fld 0 1 T.k_Spelled (fe_var 0)))))
theorem fn_steps_of {P : Program} {w : World} {K : PySem.W.Frag} {mg : Str → Option Value} {base : Heap} {cl : Nat → Addr} {a : Addr} {fd : FuncData} (T : TX K mg cl) (d_plain_steps : FnD P w K mg base cl 1 "plain_steps" F_plain_steps) (Fn : Fun K "steps_of" "steps_of" s_steps_of a fd) (hm : mg "steps_of" = some (.ref a)) (hb : Binds K fd ["one"] []) : FnD P w K mg base cl 2 "steps_of" F_steps_of :=
  fnD Fn sc_steps_of hm hb (by decide) (fs_steps_of T d_plain_steps)
theorem sc_turned : FnScope ["note", "about"] ["note", "about"] (defScope s_turned) := ⟨rfl, rfl, rfl, by decide +kernel, rfl, by decide +kernel, by decide +kernel⟩
def b_turned : Fo := (thenS (callM F_check_note (consM (bin2 subD (varM 1) (varM 0)) (pureM []))) fun d _ => some (.rt d))
def F_turned : DF := defF ["note", "about"] 2 b_turned
theorem fs_turned {P : Program} {w : World} {K : PySem.W.Frag} {mg : Str → Option Value} {base : Heap} {cl : Nat → Addr} (T : TX K mg cl) (d_check_note : FnD P w K mg base cl 1 "check_note" F_check_note) (E : XK) : FS ⟨P, w, K, mg, base, ["note", "about"], defScope s_turned, 1, cl, E, fun _ => true, [], .none, ""⟩ (defBody s_turned) b_turned :=
  (fs_one (fs_ret (fe_call d_check_note (fa_cons (fe_sub (fe_var 1) (fe_var 0)) fa_nil))))
theorem fn_turned {P : Program} {w : World} {K : PySem.W.Frag} {mg : Str → Option Value} {base : Heap} {cl : Nat → Addr} {a : Addr} {fd : FuncData} (T : TX K mg cl) (d_check_note : FnD P w K mg base cl 1 "check_note" F_check_note) (Fn : Fun K "turned" "turned" s_turned a fd) (hm : mg "turned" = some (.ref a)) (hb : Binds K fd ["note", "about"] []) : FnD P w K mg base cl 2 "turned" F_turned :=
  fnD Fn sc_turned hm hb (by decide) (fs_turned T d_check_note)
theorem sc_Spelled_note : FnScope ["self"] ["self"] (defScope s_Spelled_note) := ⟨rfl, rfl, rfl, by decide +kernel, rfl, by decide +kernel, by decide +kernel⟩
def b_Spelled_note : Fo := (thenS (callM F_check_note (consM (callM F_steps_of (consM (varM 0) (pureM []))) (pureM []))) fun d _ => some (.rt d))
def F_Spelled_note : DF := defF ["self"] 1 b_Spelled_note
theorem fs_Spelled_note {P : Program} {w : World} {K : PySem.W.Frag} {mg : Str → Option Value} {base : Heap} {cl : Nat → Addr} (T : TX K mg cl) (d_check_note : FnD P w K mg base cl 1 "check_note" F_check_note) (d_steps_of : FnD P w K mg base cl 2 "steps_of" F_steps_of) (E : XK) : FS ⟨P, w, K, mg, base, ["self"], defScope s_Spelled_note, 2, cl, E, fun _ => true, [], .none, ""⟩ (defBody s_Spelled_note) b_Spelled_note :=
  (fs_one (fs_ret (fe_call d_check_note (fa_cons (fe_call d_steps_of (fa_cons (fe_var 0) fa_nil)) fa_nil))))
theorem fn_Spelled_note {P : Program} {w : World} {K : PySem.W.Frag} {mg : Str → Option Value} {base : Heap} {cl : Nat → Addr} {a C : Addr} {fd : FuncData} (T : TX K mg cl) (d_check_note : FnD P w K mg base cl 1 "check_note" F_check_note) (d_steps_of : FnD P w K mg base cl 2 "steps_of" F_steps_of) (Fn : Fun K "note" "Spelled.note" s_Spelled_note a fd) (CX : ClsX K mg 0 C) (hm : Meth K C "note" a) (hb : Binds K fd ["self"] []) : FnM P w K mg base cl 3 0 "note" F_Spelled_note :=
  fnM Fn sc_Spelled_note CX hm hb (by decide) (fs_Spelled_note T d_check_note d_steps_of)
theorem sc_read_note : FnScope ["text", "mark", "rest", "many", "signs"] ["text"] (defScope s_read_note) := ⟨rfl, rfl, rfl, by decide +kernel, rfl, by decide +kernel, by decide +kernel⟩
def b_read_note : Fo := (seqS (thenS (orT (tst (bin2 eqD (varM 0) (pureM (.str "")))) (tst (bin2 (inX true) (bin2 ixD (varM 0) (pureM (.int 0))) (pureM (.str "cdefgab"))))) fun k => if k then (fun _ => some (.ex 7)) else nxS) (seqS (thenS (bindM (varM 0) fun d => bindM (intM (pureM (.int 1))) fun l => bindM (intM (pureM (.int 2))) fun h => liftO (slD d l h)) fun d δ => some (.nx (δ.set 1 (.val d)))) (seqS (thenS (bindM (varM 0) fun d => bindM (intM (pureM (.int 1))) fun l => bindM (pureM none) fun h => liftO (slD d l h)) fun d δ => some (.nx (δ.set 2 (.val d)))) (seqS (thenS (tst (bin2 (inX false) (varM 1) (tupM (consM (pureM (.str "#")) (consM (pureM (.str "-")) (pureM [])))))) fun k => if k then (thenS (smM lstripD (varM 2) (varM 1)) fun d δ => some (.nx (δ.set 2 (.val d)))) else nxS) (seqS (thenS (bin2 subD (bin2 subD (callB lenD (consM (varM 0) (pureM []))) (pureM (.int 1))) (callB lenD (consM (varM 2) (pureM [])))) fun d δ => some (.nx (δ.set 3 (.val d)))) (seqS (thenS (orT (tst (bin2 neD (callB lenD (consM (varM 2) (pureM []))) (pureM (.int 1)))) (orT (tst (bin2 (inX true) (varM 2) (pureM (.str "0123456789")))) (tst (bin2 gtD (varM 3) (pureM (.int 2)))))) fun k => if k then (fun _ => some (.ex 7)) else nxS) (seqS (thenS (iteM (tst (bin2 eqD (varM 1) (pureM (.str "#")))) (varM 3) (un1 negD (varM 3))) fun d δ => some (.nx (δ.set 4 (.val d)))) (thenS (callM (fun l => F_Spelled (l ++ [])) (consM (smM sindexD (pureM (.str "cdefgab")) (bin2 ixD (varM 0) (pureM (.int 0)))) (consM (varM 4) (consM (callB intA (consM (varM 2) (pureM []))) (pureM []))))) fun d _ => some (.rt d)))))))))
def F_read_note : DF := defF ["text", "mark", "rest", "many", "signs"] 1 b_read_note
theorem fs_read_note {P : Program} {w : World} {K : PySem.W.Frag} {mg : Str → Option Value} {base : Heap} {cl : Nat → Addr} (T : TX K mg cl) (i_Spelled : FnI P w K mg base cl 1 0 0 [] F_Spelled) (E : XK) : FS ⟨P, w, K, mg, base, ["text", "mark", "rest", "many", "signs"], defScope s_read_note, 2, cl, E, fun _ => true, [], .none, ""⟩ (defBody s_read_note) b_read_note :=
  (fs_cons (fs_if (ft_w (fw_or (ft_eq (fe_var 0) fe_str) (fw_or1 (ft_notinX (fe_ix (fe_var 0) fe_int) (fe_const T.c_LETTERS))))) (fs_one (fs_raise 7 T.x_BadText)) fs_nil) (fs_cons (fs_set 1 sc_read_note.nd (fe_slice (fe_var 0) (fo_some fe_int) (fo_some fe_int))) (fs_cons (fs_set 2 sc_read_note.nd (fe_slice (fe_var 0) (fo_some fe_int) fo_none)) (fs_cons (fs_if (ft_inX (fe_var 1) (fe_tup (fa_cons fe_str (fa_cons fe_str fa_nil)))) (fs_one (fs_set 2 sc_read_note.nd (fe_lstrip (fe_var 2) (fe_var 1)))) fs_nil) (fs_cons (fs_set 3 sc_read_note.nd (fe_sub (fe_sub (fe_len T.b_len (fa_cons (fe_var 0) fa_nil)) fe_int) (fe_len T.b_len (fa_cons (fe_var 2) fa_nil)))) (fs_cons (fs_if (ft_w (fw_or (ft_ne (fe_len T.b_len (fa_cons (fe_var 2) fa_nil)) fe_int) (fw_or (ft_notinX (fe_var 2) fe_str) (fw_or1 (ft_gt (fe_var 3) fe_int))))) (fs_one (fs_raise 7 T.x_BadText)) fs_nil) (fs_cons (fs_set 4 sc_read_note.nd (fe_ite (ft_eq (fe_var 1) fe_str) (fe_var 3) (fe_neg (fe_var 3)))) (fs_one (fs_ret (fe_make i_Spelled (fa_cons (fe_sindex (fe_const T.c_LETTERS) (fe_ix (fe_var 0) fe_int)) (fa_cons (fe_var 4) (fa_cons (fe_intA T.b_int (fa_cons (fe_var 2) fa_nil)) fa_nil)))))))))))))
theorem fn_read_note {P : Program} {w : World} {K : PySem.W.Frag} {mg : Str → Option Value} {base : Heap} {cl : Nat → Addr} {a : Addr} {fd : FuncData} (T : TX K mg cl) (i_Spelled : FnI P w K mg base cl 1 0 0 [] F_Spelled) (Fn : Fun K "read_note" "read_note" s_read_note a fd) (hm : mg "read_note" = some (.ref a)) (hb : Binds K fd ["text"] []) : FnD P w K mg base cl 3 "read_note" F_read_note :=
  fnD Fn sc_read_note hm hb (by decide) (fs_read_note T i_Spelled)
theorem sc_spellings : FnScope ["note", "found", "letter", "signs", "rest", "_", "octave"] ["note"] (defScope s_spellings) := ⟨rfl, rfl, rfl, by decide +kernel, rfl, by decide +kernel, by decide +kernel⟩
def b_spellings : Fo := (seqS (thenS (callM F_check_note (consM (varM 0) (pureM []))) fun _ => nxS) (seqS (thenS (pureM []) fun ds δ => if ds.length ≤ 1000000 then some (.nx (δ.set 1 (.own ds))) else none) (seqS (thenS (itM rng1 (consM (pureM (.int 7)) (pureM []))) fun ds => forD (bName 2) ((thenS (itM rng2 (consM (un1 negD (pureM (.int 2))) (consM (pureM (.int 3)) (pureM [])))) fun ds => forD (bName 3) ((seqS (thenS (bin2 subD (bin2 subD (varM 0) (varM 3)) (bin2 ixD (pureM (.tup [.int 0, .int 2, .int 4, .int 5, .int 7, .int 9, .int 11])) (varM 2))) fun d δ => some (.nx (δ.set 4 (.val d)))) (thenS (tst (bin2 eqD (bin2 modD (varM 4) (pureM (.int 12))) (pureM (.int 0)))) fun k => if k then (appS 1 (tupM (consM (callB absD (consM (varM 3) (pureM []))) (consM (bin2 fdivD (varM 4) (pureM (.int 12))) (consM (varM 2) (consM (varM 3) (pureM []))))))) else nxS))) ds)) ds) (freezeS 1 (thenS (callB tupleD (consM (lcM [5, 6, 2, 3] (bTup (bCons (bName 5) (bCons (bName 6) (bCons (bName 2) (bCons (bName 3) (bNil)))))) (pureM true) (callM (fun l => F_Spelled (l ++ [])) (consM (varM 2) (consM (varM 3) (consM (varM 6) (pureM []))))) (seqM (callB sortedD (consM (varM 1) (pureM []))))) (pureM []))) fun d _ => some (.rt d))))))
def F_spellings : DF := defF ["note", "found", "letter", "signs", "rest", "_", "octave"] 1 b_spellings
theorem fs_spellings {P : Program} {w : World} {K : PySem.W.Frag} {mg : Str → Option Value} {base : Heap} {cl : Nat → Addr} (T : TX K mg cl) (d_check_note : FnD P w K mg base cl 1 "check_note" F_check_note) (i_Spelled : FnI P w K mg base cl 1 0 0 [] F_Spelled) (E : XK) : FS ⟨P, w, K, mg, base, ["note", "found", "letter", "signs", "rest", "_", "octave"], defScope s_spellings, 2, cl, E, fun _ => true, [], .none, ""⟩ (defBody s_spellings) b_spellings :=
  (fs_cons (fs_expr (fe_call d_check_note (fa_cons (fe_var 0) fa_nil))) (fs_cons (fs_setOwn 1 sc_spellings.nd fa_nil) (fs_cons (fs_for (fi_range1 T.b_range (fa_cons fe_int fa_nil)) (fg_name 2 sc_spellings.nd) (fs_one (fs_for (fi_range2 T.b_range (fa_cons (fe_neg fe_int) (fa_cons fe_int fa_nil))) (fg_name 3 sc_spellings.nd) (fs_cons (fs_set 4 sc_spellings.nd (fe_sub (fe_sub (fe_var 0) (fe_var 3)) (fe_ix (fe_const T.c_STEPS) (fe_var 2)))) (fs_one (fs_if (ft_eq (fe_mod (fe_var 4) fe_int) fe_int) (fs_one (fs_append 1 (fe_tup (fa_cons (fe_abs T.b_abs (fa_cons (fe_var 3) fa_nil)) (fa_cons (fe_fdiv (fe_var 4) fe_int) (fa_cons (fe_var 2) (fa_cons (fe_var 3) fa_nil))))))) fs_nil)))))) (fs_freeze 1 (fs_one (fs_ret (fe_tuple T.b_tuple (fa_cons (fe_lc [("_", 5), ("octave", 6), ("letter", 2), ("signs", 3)] sc_spellings.nd (fi_seq (fe_sorted T.b_sorted (fa_cons (fe_var 1) fa_nil))) (by kernel_rfl) (fg_tup (fgs_cons (fg_name 5 sc_spellings.nd) (fgs_cons (fg_name 6 sc_spellings.nd) (fgs_cons (fg_name 2 sc_spellings.nd) (fgs_cons (fg_name 3 sc_spellings.nd) fgs_nil))))) fts_nil (fe_make i_Spelled (fa_cons (fe_var 2) (fa_cons (fe_var 3) (fa_cons (fe_var 6) fa_nil)))) (by decide)) fa_nil))))))))
theorem fn_spellings {P : Program} {w : World} {K : PySem.W.Frag} {mg : Str → Option Value} {base : Heap} {cl : Nat → Addr} {a : Addr} {fd : FuncData} (T : TX K mg cl) (d_check_note : FnD P w K mg base cl 1 "check_note" F_check_note) (i_Spelled : FnI P w K mg base cl 1 0 0 [] F_Spelled) (Fn : Fun K "spellings" "spellings" s_spellings a fd) (hm : mg "spellings" = some (.ref a)) (hb : Binds K fd ["note"] []) : FnD P w K mg base cl 3 "spellings" F_spellings :=
  fnD Fn sc_spellings hm hb (by decide) (fs_spellings T d_check_note i_Spelled)
theorem sc_apart : FnScope ["one", "other"] ["one", "other"] (defScope s_apart) := ⟨rfl, rfl, rfl, by decide +kernel, rfl, by decide +kernel, by decide +kernel⟩
def b_apart : Fo := (thenS (tupM (consM (bin2 subD (methM 0 F_Spelled_place (varM 1) (pureM [])) (methM 0 F_Spelled_place (varM 0) (pureM []))) (consM (bin2 subD (callM F_steps_of (consM (varM 1) (pureM []))) (callM F_steps_of (consM (varM 0) (pureM [])))) (pureM [])))) fun d _ => some (.rt d))
def F_apart : DF := defF ["one", "other"] 2 b_apart
theorem fs_apart {P : Program} {w : World} {K : PySem.W.Frag} {mg : Str → Option Value} {base : Heap} {cl : Nat → Addr} (T : TX K mg cl) (m_Spelled_place : FnM P w K mg base cl 1 0 "place" F_Spelled_place) (d_steps_of : FnD P w K mg base cl 2 "steps_of" F_steps_of) (E : XK) : FS ⟨P, w, K, mg, base, ["one", "other"], defScope s_apart, 2, cl, E, fun _ => true, [], .none, ""⟩ (defBody s_apart) b_apart :=
  (fs_one (fs_ret (fe_tup (fa_cons (fe_sub (fe_meth0 m_Spelled_place (fe_var 1)) (fe_meth0 m_Spelled_place (fe_var 0))) (fa_cons (fe_sub (fe_call d_steps_of (fa_cons (fe_var 1) fa_nil)) (fe_call d_steps_of (fa_cons (fe_var 0) fa_nil))) fa_nil)))))
theorem fn_apart {P : Program} {w : World} {K : PySem.W.Frag} {mg : Str → Option Value} {base : Heap} {cl : Nat → Addr} {a : Addr} {fd : FuncData} (T : TX K mg cl) (m_Spelled_place : FnM P w K mg base cl 1 0 "place" F_Spelled_place) (d_steps_of : FnD P w K mg base cl 2 "steps_of" F_steps_of) (Fn : Fun K "apart" "apart" s_apart a fd) (hm : mg "apart" = some (.ref a)) (hb : Binds K fd ["one", "other"] []) : FnD P w K mg base cl 3 "apart" F_apart :=
  fnD Fn sc_apart hm hb (by decide) (fs_apart T m_Spelled_place d_steps_of)
theorem sc_moved : FnScope ["one", "letters", "steps", "place", "letter", "octave"] ["one", "letters", "steps"] (defScope s_moved) := ⟨rfl, rfl, rfl, by decide +kernel, rfl, by decide +kernel, by decide +kernel⟩
def b_moved : Fo := (seqS (thenS (bin2 addD (methM 0 F_Spelled_place (varM 0) (pureM [])) (varM 1)) fun d δ => some (.nx (δ.set 3 (.val d)))) (seqS (thenS (bin2 modD (varM 3) (pureM (.int 7))) fun d δ => some (.nx (δ.set 4 (.val d)))) (seqS (thenS (bin2 fdivD (varM 3) (pureM (.int 7))) fun d δ => some (.nx (δ.set 5 (.val d)))) (thenS (callM (fun l => F_Spelled (l ++ [])) (consM (varM 4) (consM (bin2 subD (bin2 addD (callM F_steps_of (consM (varM 0) (pureM []))) (varM 2)) (callM F_plain_steps (consM (varM 4) (consM (varM 5) (pureM []))))) (consM (varM 5) (pureM []))))) fun d _ => some (.rt d)))))
def F_moved : DF := defF ["one", "letters", "steps", "place", "letter", "octave"] 3 b_moved
theorem fs_moved {P : Program} {w : World} {K : PySem.W.Frag} {mg : Str → Option Value} {base : Heap} {cl : Nat → Addr} (T : TX K mg cl) (i_Spelled : FnI P w K mg base cl 1 0 0 [] F_Spelled) (m_Spelled_place : FnM P w K mg base cl 1 0 "place" F_Spelled_place) (d_plain_steps : FnD P w K mg base cl 1 "plain_steps" F_plain_steps) (d_steps_of : FnD P w K mg base cl 2 "steps_of" F_steps_of) (E : XK) : FS ⟨P, w, K, mg, base, ["one", "letters", "steps", "place", "letter", "octave"], defScope s_moved, 2, cl, E, fun _ => true, [], .none, ""⟩ (defBody s_moved) b_moved :=
  (fs_cons (fs_set 3 sc_moved.nd (fe_add (fe_meth0 m_Spelled_place (fe_var 0)) (fe_var 1))) (fs_cons (fs_set 4 sc_moved.nd (fe_mod (fe_var 3) fe_int)) (fs_cons (fs_set 5 sc_moved.nd (fe_fdiv (fe_var 3) fe_int)) (fs_one (fs_ret (fe_make i_Spelled (fa_cons (fe_var 4) (fa_cons (fe_sub (fe_add (fe_call d_steps_of (fa_cons (fe_var 0) fa_nil)) (fe_var 2)) (fe_call d_plain_steps (fa_cons (fe_var 4) (fa_cons (fe_var 5) fa_nil)))) (fa_cons (fe_var 5) fa_nil)))))))))
theorem fn_moved {P : Program} {w : World} {K : PySem.W.Frag} {mg : Str → Option Value} {base : Heap} {cl : Nat → Addr} {a : Addr} {fd : FuncData} (T : TX K mg cl) (i_Spelled : FnI P w K mg base cl 1 0 0 [] F_Spelled) (m_Spelled_place : FnM P w K mg base cl 1 0 "place" F_Spelled_place) (d_plain_steps : FnD P w K mg base cl 1 "plain_steps" F_plain_steps) (d_steps_of : FnD P w K mg base cl 2 "steps_of" F_steps_of) (Fn : Fun K "moved" "moved" s_moved a fd) (hm : mg "moved" = some (.ref a)) (hb : Binds K fd ["one", "letters", "steps"] []) : FnD P w K mg base cl 3 "moved" F_moved :=
  fnD Fn sc_moved hm hb (by decide) (fs_moved T i_Spelled m_Spelled_place d_plain_steps d_steps_of)
theorem sc__law_roll : FnScope ["dice", "many", "found"] ["dice", "many"] (defScope s__law_roll) := ⟨rfl, rfl, rfl, by decide +kernel, rfl, by decide +kernel, by decide +kernel⟩
theorem at3 (a b d : V) (k : Nat) (v : V) (h : [a, b, d][k]? = some v) : atI [a, b, d] (k : Int) = some v := atI_nat h
theorem ok_roll {P : Program} {w : World} {K : PySem.W.Frag} {mg : Str → Option Value} {base : Heap} {a : Addr} {fd : FuncData} (F : Fun K "_law_roll" "_law_roll" s__law_roll a fd) (hi : mg "int" = none) : FnOk P w K mg base (L2.CX P w) 1 a fd ["dice", "many"] spRoll := by
  refine F.okX sc__law_roll (fun vs H Q E h => ?_) (fun cdv A outer s H vs Q E hr h => ?_)
  · obtain ⟨p, x, y, z, m, rfl, _⟩ := h
    rfl
  · refine ⟨_, pss_cons (ps_if (PW.pt (pw_or (pt_cmpR op_eq (pe_ix ix_list (pv 0) pe_int (fun _ _ => rfl)) pe_int (nomark _)) (pw_or1 (PW.pt (pw_and (pt_cmpR op_eq (pe_ix ix_list (pv 0) pe_int (fun _ _ => rfl)) pe_int (nomark _)) (pw_and1 (pt_cmpR op_gt (pe_ix ix_list (pv 0) pe_int (fun _ _ => rfl)) pe_int (nomark _))))))))
        (pss_cons (ps_set (i := 2) sc__law_roll.nd rfl (Or.inl rfl) (pe_op op_mod (pe_callTy call_int1 (by rfl) hi PyProof.Rows.boot_int (pa_cons (pe_ix ix_list (pv 0) pe_int (fun _ _ => rfl)) pa_nil)) (pv 1)))
        (pss_cons (ps_asg (pe_op op_fdiv (pe_ix ix_list (pv 0) pe_int (fun _ _ => rfl)) (pv 1)) (pg_sub (pv 0) pe_int set_list))
        (pss_one (ps_ret (pv 2))))) pss_nil)
      (pss_cons (ps_asg pe_int (pg_sub (pv 0) pe_int set_list))
      (pss_cons (ps_asg (pe_op op_mod (pe_callTy call_int1 (by rfl) hi PyProof.Rows.boot_int (pa_cons (pe_op op_add (pe_op op_add (pe_op op_mul (pe_ix ix_list (pv 0) pe_int (fun _ _ => rfl)) pe_int) (pe_op op_mul (pe_ix ix_list (pv 0) pe_int (fun _ _ => rfl)) pe_int)) pe_int) pa_nil)) pe_int) (pg_sub (pv 0) pe_int set_list))
      (pss_cons (ps_asg (pe_op op_add (pe_ix ix_list (pv 0) pe_int (fun _ _ => rfl)) pe_int) (pg_sub (pv 0) pe_int set_list))
      (pss_one (ps_ret (pe_op op_mod (pe_callTy call_int1 (by rfl) hi PyProof.Rows.boot_int (pa_cons (pe_op op_add (pe_op op_fdiv (pe_ix ix_list (pv 0) pe_int (fun _ _ => rfl)) pe_int) (pe_ix ix_list (pv 0) pe_int (fun _ _ => rfl))) pa_nil)) (pv 1))))))), ?_⟩
    obtain ⟨p, x, y, z, m, rfl, hp, m0, m1, q⟩ := h
    have sq : ∀ {H' : Hp} {a b d : Int}, H' p = some (ints3 a b d) → SqL K H' p [.int a, .int b, .int d] := fun h => .inl (.inl h)
    refine ⟨_, rfl, p, _, _, _, rfl, rfl, sq hp, atI_nat (j := 2) rfl, rfl, _, rfl, ?_⟩
    refine ite2 (fun e => ?_) (fun e => ?_)
    · have hz2 : z = 2 := V.int.inj (of_decide_eq_true e)
      have hc : z = 2 ∨ (z = 1 ∧ 0 < x) := .inl hz2
      refine iteT ?_
      refine ⟨_, rfl, p, _, _, _, rfl, rfl, sq hp, atI_nat (j := 0) rfl, .inl ⟨_, rfl, _, rfl, _, _, rfl, rfl, m0, ?_⟩⟩
      refine ⟨_, rfl, p, _, _, _, rfl, rfl, sq hp, atI_nat (j := 0) rfl, _, rfl, _, _, rfl, rfl, ⟨m0, m1⟩, _, rfl, p, _, _, 0, rfl, rfl, hp, rfl, _, rfl, ?_⟩
      simp only [rollF, if_pos hc] at q
      exact q
    · have hz2 : z ≠ 2 := fun h => e (by rw [h]; exact decide_eq_true rfl)
      refine ⟨_, rfl, p, _, _, _, rfl, rfl, sq hp, atI_nat (j := 2) rfl, rfl, _, rfl, ?_⟩
      refine ite2 (fun e1 => ?_) (fun e1 => ?_)
      · have hz1 : z = 1 := V.int.inj (of_decide_eq_true e1)
        refine ⟨_, rfl, p, _, _, _, rfl, rfl, sq hp, atI_nat (j := 0) rfl, _, _, rfl, rfl, _, rfl, ?_⟩
        by_cases hx : 0 < x
        · rw [decide_eq_true hx]
          have hc : z = 2 ∨ (z = 1 ∧ 0 < x) := .inr ⟨hz1, hx⟩
          refine iteT ?_
          refine ⟨_, rfl, p, _, _, _, rfl, rfl, sq hp, atI_nat (j := 0) rfl, .inl ⟨_, rfl, _, rfl, _, _, rfl, rfl, m0, ?_⟩⟩
          refine ⟨_, rfl, p, _, _, _, rfl, rfl, sq hp, atI_nat (j := 0) rfl, _, rfl, _, _, rfl, rfl, ⟨m0, m1⟩, _, rfl, p, _, _, 0, rfl, rfl, hp, rfl, _, rfl, ?_⟩
          simp only [rollF, if_pos hc] at q
          exact q
        · rw [decide_eq_false hx]
          have hc : ¬ (z = 2 ∨ (z = 1 ∧ 0 < x)) := by omega
          refine iteF ?_
          refine ⟨_, rfl, p, _, 2, 2, rfl, rfl, hp, rfl, ?_⟩
          have h1 : (upd H p (.lst [.int x, .int y, .int 0])) p = some (ints3 x y 0) := upd_same
          refine ⟨_, rfl, p, _, 0, _, rfl, rfl, sq h1, atI_nat (j := 0) rfl, _, _, rfl, rfl, .inr ⟨by decide, by decide⟩, _, rfl, p, _, 1, _, rfl, rfl, sq h1, atI_nat (j := 1) rfl, _, _, rfl, rfl, .inr ⟨by decide, by decide⟩, _, _, rfl, rfl, _, _, rfl, rfl, .inl ⟨_, rfl, _, _, rfl, rfl, (by show (0 : Int) < 2147483647; decide), ?_⟩⟩
          refine ⟨_, rfl, p, _, 0, 0, rfl, rfl, h1, rfl, ?_⟩
          have h2 : (upd (upd H p (.lst [.int x, .int y, .int 0])) p (.lst [.int ((x * 48271 + y * 69621 + 11) % 2147483647), .int y, .int 0])) p = some (ints3 ((x * 48271 + y * 69621 + 11) % 2147483647) y 0) := upd_same
          refine ⟨_, rfl, p, _, 1, _, rfl, rfl, sq h2, atI_nat (j := 1) rfl, _, _, rfl, rfl, _, rfl, p, _, 1, 1, rfl, rfl, h2, rfl, ?_⟩
          have h3 : (upd (upd (upd H p (.lst [.int x, .int y, .int 0])) p (.lst [.int ((x * 48271 + y * 69621 + 11) % 2147483647), .int y, .int 0])) p (.lst [.int ((x * 48271 + y * 69621 + 11) % 2147483647), .int (y + 1), .int 0])) p = some (ints3 ((x * 48271 + y * 69621 + 11) % 2147483647) (y + 1) 0) := upd_same
          refine ⟨_, rfl, p, _, 0, _, rfl, rfl, sq h3, atI_nat (j := 0) rfl, _, _, rfl, rfl, ⟨by decide, by decide⟩, _, rfl, p, _, 0, _, rfl, rfl, sq h3, atI_nat (j := 0) rfl, _, _, rfl, rfl, .inl ⟨_, rfl, _, rfl, _, _, rfl, rfl, m0, ?_⟩⟩
          simp only [rollF, if_neg hc] at q
          have e3 : upd (upd (upd H p (.lst [.int x, .int y, .int 0])) p (.lst [.int ((x * 48271 + y * 69621 + 11) % 2147483647), .int y, .int 0])) p (.lst [.int ((x * 48271 + y * 69621 + 11) % 2147483647), .int (y + 1), .int 0]) = upd H p (ints3 ((x * 48271 + y * 69621 + 11) % 2147483647) (y + 1) 0) := by rw [upd_upd, upd_upd]; rfl
          rw [← e3] at q
          exact q
      · have hz1 : z ≠ 1 := fun h => e1 (by rw [h]; exact decide_eq_true rfl)
        have hc : ¬ (z = 2 ∨ (z = 1 ∧ 0 < x)) := by omega
        refine iteF ?_
        refine ⟨_, rfl, p, _, 2, 2, rfl, rfl, hp, rfl, ?_⟩
        have h1 : (upd H p (.lst [.int x, .int y, .int 0])) p = some (ints3 x y 0) := upd_same
        refine ⟨_, rfl, p, _, 0, _, rfl, rfl, sq h1, atI_nat (j := 0) rfl, _, _, rfl, rfl, .inr ⟨by decide, by decide⟩, _, rfl, p, _, 1, _, rfl, rfl, sq h1, atI_nat (j := 1) rfl, _, _, rfl, rfl, .inr ⟨by decide, by decide⟩, _, _, rfl, rfl, _, _, rfl, rfl, .inl ⟨_, rfl, _, _, rfl, rfl, (by show (0 : Int) < 2147483647; decide), ?_⟩⟩
        refine ⟨_, rfl, p, _, 0, 0, rfl, rfl, h1, rfl, ?_⟩
        have h2 : (upd (upd H p (.lst [.int x, .int y, .int 0])) p (.lst [.int ((x * 48271 + y * 69621 + 11) % 2147483647), .int y, .int 0])) p = some (ints3 ((x * 48271 + y * 69621 + 11) % 2147483647) y 0) := upd_same
        refine ⟨_, rfl, p, _, 1, _, rfl, rfl, sq h2, atI_nat (j := 1) rfl, _, _, rfl, rfl, _, rfl, p, _, 1, 1, rfl, rfl, h2, rfl, ?_⟩
        have h3 : (upd (upd (upd H p (.lst [.int x, .int y, .int 0])) p (.lst [.int ((x * 48271 + y * 69621 + 11) % 2147483647), .int y, .int 0])) p (.lst [.int ((x * 48271 + y * 69621 + 11) % 2147483647), .int (y + 1), .int 0])) p = some (ints3 ((x * 48271 + y * 69621 + 11) % 2147483647) (y + 1) 0) := upd_same
        refine ⟨_, rfl, p, _, 0, _, rfl, rfl, sq h3, atI_nat (j := 0) rfl, _, _, rfl, rfl, ⟨by decide, by decide⟩, _, rfl, p, _, 0, _, rfl, rfl, sq h3, atI_nat (j := 0) rfl, _, _, rfl, rfl, .inl ⟨_, rfl, _, rfl, _, _, rfl, rfl, m0, ?_⟩⟩
        simp only [rollF, if_neg hc] at q
        have e3 : upd (upd (upd H p (.lst [.int x, .int y, .int 0])) p (.lst [.int ((x * 48271 + y * 69621 + 11) % 2147483647), .int y, .int 0])) p (.lst [.int ((x * 48271 + y * 69621 + 11) % 2147483647), .int (y + 1), .int 0]) = upd H p (ints3 ((x * 48271 + y * 69621 + 11) % 2147483647) (y + 1) 0) := by rw [upd_upd, upd_upd]; rfl
        rw [← e3] at q
        exact q

theorem sc__law_rounds : FnScope ["script", "most", "cells", "cell"] ["script", "most"] (defScope s__law_rounds) := ⟨rfl, rfl, rfl, by decide +kernel, rfl, by decide +kernel, by decide +kernel⟩
def b_rounds : Fo := (seqS (thenS (tst (bin2 eqD (varM 2) (lstM (pureM [])))) fun k => if k then (thenS (lstM (consM (pureM (.int 0)) (pureM []))) fun d δ => some (.nx (δ.set 2 (.val d)))) else nxS) (thenS (lcM [3] (bName 3) (pureM true) (callM F__law_dice (consM (varM 3) (pureM []))) (seqM (varM 2))) fun d _ => some (.rt d)))
theorem fs_rounds {P : Program} {w : World} {K : PySem.W.Frag} {mg : Str → Option Value} {base : Heap} {cl : Nat → Addr} (T : TX K mg cl) (d__law_dice : FnD P w K mg base cl 1 "_law_dice" F__law_dice) (E : XK) : FS ⟨P, w, K, mg, base, ["script", "most", "cells", "cell"], defScope s__law_rounds, 1, cl, E, fun _ => true, [], .none, ""⟩ (defBody s__law_rounds).tail b_rounds :=
  (fs_cons (fs_if (ft_eq (fe_var 2) (fe_lst fa_nil)) (fs_one (fs_set 2 sc__law_rounds.nd (fe_lst (fa_cons fe_int fa_nil)))) fs_nil) (fs_one (fs_ret (fe_lc [("cell", 3)] sc__law_rounds.nd (fi_seq (fe_var 2)) (by kernel_rfl) (fg_name 3 sc__law_rounds.nd) fts_nil (fe_call d__law_dice (fa_cons (fe_var 3) fa_nil)) (by decide)))))
abbrev NL : List (Nat × Str) := [(1, "note"), (2, "time"), (3, "line"), (4, "none"), (5, "paper"), (6, "size"), (7, "text"), (8, "store"), (9, "no such")]
theorem sc_law : FnScope ["script", "dice", "wrong", "note", "steps", "due", "octave", "every", "one", "text", "goal", "place", "signs", "about", "letter", "letters", "half", "pair", "size_now"] ["script"] (defScope s_law) := ⟨rfl, rfl, rfl, by decide +kernel, rfl, by decide +kernel, by decide +kernel⟩
abbrev lam_0 : Lam := mkLam ((("law" : Str) ++ (".<locals>." : Str)) ++ "<lambda>") 0 (eltE (eltE (asgE ((defBody s_law).getD 1 (.Pass ⟨0, 0, 0, 0⟩))) 13) 0)
abbrev lam_1 : Lam := mkLam ((("law" : Str) ++ (".<locals>." : Str)) ++ "<lambda>") 1 (eltE (eltE (asgE ((defBody s_law).getD 1 (.Pass ⟨0, 0, 0, 0⟩))) 12) 0)
abbrev lam_2 : Lam := mkLam ((("law" : Str) ++ (".<locals>." : Str)) ++ "<lambda>") 2 (eltE (eltE (asgE ((defBody s_law).getD 1 (.Pass ⟨0, 0, 0, 0⟩))) 11) 0)
abbrev lam_3 : Lam := mkLam ((("law" : Str) ++ (".<locals>." : Str)) ++ "<lambda>") 3 (eltE (eltE (asgE ((defBody s_law).getD 1 (.Pass ⟨0, 0, 0, 0⟩))) 10) 0)
abbrev lam_4 : Lam := mkLam ((("law" : Str) ++ (".<locals>." : Str)) ++ "<lambda>") 4 (eltE (eltE (asgE ((defBody s_law).getD 1 (.Pass ⟨0, 0, 0, 0⟩))) 9) 0)
abbrev lam_5 : Lam := mkLam ((("law" : Str) ++ (".<locals>." : Str)) ++ "<lambda>") 5 (eltE (eltE (asgE ((defBody s_law).getD 1 (.Pass ⟨0, 0, 0, 0⟩))) 8) 0)
abbrev lam_6 : Lam := mkLam ((("law" : Str) ++ (".<locals>." : Str)) ++ "<lambda>") 6 (eltE (eltE (asgE ((defBody s_law).getD 1 (.Pass ⟨0, 0, 0, 0⟩))) 7) 0)
abbrev lam_7 : Lam := mkLam ((("law" : Str) ++ (".<locals>." : Str)) ++ "<lambda>") 7 (eltE (eltE (asgE ((defBody s_law).getD 1 (.Pass ⟨0, 0, 0, 0⟩))) 6) 0)
abbrev lam_8 : Lam := mkLam ((("law" : Str) ++ (".<locals>." : Str)) ++ "<lambda>") 8 (eltE (eltE (asgE ((defBody s_law).getD 1 (.Pass ⟨0, 0, 0, 0⟩))) 5) 0)
abbrev lam_9 : Lam := mkLam ((("law" : Str) ++ (".<locals>." : Str)) ++ "<lambda>") 9 (eltE (eltE (asgE ((defBody s_law).getD 1 (.Pass ⟨0, 0, 0, 0⟩))) 4) 0)
abbrev lam_10 : Lam := mkLam ((("law" : Str) ++ (".<locals>." : Str)) ++ "<lambda>") 10 (eltE (eltE (asgE ((defBody s_law).getD 1 (.Pass ⟨0, 0, 0, 0⟩))) 3) 0)
abbrev lam_11 : Lam := mkLam ((("law" : Str) ++ (".<locals>." : Str)) ++ "<lambda>") 11 (eltE (eltE (asgE ((defBody s_law).getD 1 (.Pass ⟨0, 0, 0, 0⟩))) 2) 0)
abbrev lam_12 : Lam := mkLam ((("law" : Str) ++ (".<locals>." : Str)) ++ "<lambda>") 12 (eltE (eltE (asgE ((defBody s_law).getD 1 (.Pass ⟨0, 0, 0, 0⟩))) 1) 0)
abbrev lam_13 : Lam := mkLam ((("law" : Str) ++ (".<locals>." : Str)) ++ "<lambda>") 13 (eltE (eltE (asgE ((defBody s_law).getD 1 (.Pass ⟨0, 0, 0, 0⟩))) 0) 0)
def LT : List (Lam × M D) := [(lam_0, callM F_read_note (consM (pureM (.str "")) (pureM []))), (lam_1, callM F_read_note (consM (pureM (.str "c44")) (pureM []))), (lam_2, callM F_read_note (consM (pureM (.str "c#-4")) (pureM []))), (lam_3, callM F_read_note (consM (pureM (.str "c###4")) (pureM []))), (lam_4, callM F_read_note (consM (pureM (.str "c")) (pureM []))), (lam_5, callM F_read_note (consM (pureM (.str "h4")) (pureM []))), (lam_6, callM F_turned (consM (pureM (.int 9)) (consM (pureM (.int 8)) (pureM [])))), (lam_7, methM 0 F_Spelled_note (callM (fun l => F_Spelled (l ++ [])) (consM (pureM (.int 0)) (consM (bin2 subD (pureM (.int 0)) (pureM (.int 1))) (consM (pureM (.int 0)) (pureM []))))) (pureM [])), (lam_8, callM (fun l => F_Spelled (l ++ [])) (consM (pureM (.int 0)) (consM (pureM (.int 3)) (consM (pureM (.int 4)) (pureM []))))), (lam_9, callM F_turned (consM (pureM (.int 9)) (consM (pureM (.int 140)) (pureM [])))), (lam_10, callM (fun l => F_Spelled (l ++ [])) (consM (bin2 subD (pureM (.int 0)) (pureM (.int 1))) (consM (pureM (.int 0)) (consM (pureM (.int 4)) (pureM []))))), (lam_11, callM (fun l => F_Spelled (l ++ [])) (consM (pureM (.int 7)) (consM (pureM (.int 0)) (consM (pureM (.int 4)) (pureM []))))), (lam_12, callM F_check_note (consM (pureM (.int 121)) (pureM []))), (lam_13, callM F_check_note (consM (bin2 subD (pureM (.int 0)) (pureM (.int 1))) (pureM [])))]
def c_1 : Fo := thenS (bin2 addD (pureM (.int 12)) (rollM 1 (pureM (.int 97)))) fun d δ => some (.nx (δ.set 3 (.val d)))
def c_2 : Fo := thenS (orT (tst (bin2 neD (callM F_class_of (consM (varM 3) (pureM []))) (bin2 subD (varM 3) (bin2 mulD (pureM (.int 12)) (callM F_octave_of (consM (varM 3) (pureM []))))))) (orT (bindM (tst (chainM leD ltD (pureM (.int 0)) (callM F_class_of (consM (varM 3) (pureM []))) (pureM (.int 12)))) fun k => pureM (!k)) (tst (bin2 neD (callM F_check_note (consM (varM 3) (pureM []))) (varM 3))))) fun k => if k then (thenS (pureM (.bl false)) fun d _ => some (.rt d)) else nxS
def c_3 : Fo := thenS (lstM (consM (pureM (.int 0)) (consM (pureM (.int 2)) (consM (pureM (.int 4)) (consM (pureM (.int 5)) (consM (pureM (.int 7)) (consM (pureM (.int 9)) (consM (pureM (.int 11)) (pureM []))))))))) fun d δ => some (.nx (δ.set 4 (.val d)))
def c_4 : Fo := thenS (pureM []) fun ds δ => if ds.length ≤ 1000000 then some (.nx (δ.set 5 (.own ds))) else none
def c_5 : Fo := thenS (itM rng1 (consM (pureM (.int 11)) (pureM []))) fun ds => forD (bName 6) ((thenS (itM rng1 (consM (pureM (.int 7)) (pureM []))) fun ds => forD (bName 14) ((seqS (thenS (bin2 subD (bin2 subD (varM 3) (bin2 mulD (pureM (.int 12)) (varM 6))) (bin2 ixD (varM 4) (varM 14))) fun d δ => some (.nx (δ.set 12 (.val d)))) (thenS (tst (chainM leD leD (bin2 subD (pureM (.int 0)) (pureM (.int 2))) (varM 12) (pureM (.int 2)))) fun k => if k then (appS 5 (tupM (consM (callB absD (consM (varM 12) (pureM []))) (consM (varM 6) (consM (varM 14) (consM (varM 12) (pureM []))))))) else nxS))) ds)) ds
def c_6 : Fo := thenS (callM F_spellings (consM (varM 3) (pureM []))) fun d δ => some (.nx (δ.set 7 (.val d)))
def c_7 : Fo := thenS (tst (bin2 neD (lcM [8] (bName 8) (pureM true) (methM 0 F_Spelled_shown (varM 8) (pureM [])) (seqM (varM 7))) (lcM [18, 6, 14, 12] (bTup (bCons (bName 18) (bCons (bName 6) (bCons (bName 14) (bCons (bName 12) (bNil)))))) (pureM true) (tupM (consM (varM 14) (consM (varM 12) (consM (varM 6) (pureM []))))) (seqM (callB sortedD (consM (varM 5) (pureM []))))))) fun k => if k then (thenS (pureM (.bl false)) fun d _ => some (.rt d)) else nxS
def c_8 : Fo := thenS (bin2 ixD (varM 7) (rollM 1 (callB lenD (consM (varM 7) (pureM []))))) fun d δ => some (.nx (δ.set 8 (.val d)))
def c_9 : Fo := thenS (bin2 addD (bin2 addD (bin2 ixD (pureM (.str "cdefgab")) (un1 (fldD 0 0) (varM 8))) (bin2 mulA (iteM (tst (bin2 gtD (un1 (fldD 0 1) (varM 8)) (pureM (.int 0)))) (pureM (.str "#")) (pureM (.str "-"))) (callB absD (consM (un1 (fldD 0 1) (varM 8)) (pureM []))))) (callB strD (consM (un1 (fldD 0 2) (varM 8)) (pureM [])))) fun d δ => some (.nx (δ.set 9 (.val d)))
def c_10 : Fo := thenS (orT (tst (bin2 neD (methM 0 F_Spelled_told (varM 8) (pureM [])) (varM 9))) (orT (tst (bin2 neD (methM 0 F_Spelled_note (varM 8) (pureM [])) (varM 3))) (tst (bin2 neD (methM 0 F_Spelled_place (varM 8) (pureM [])) (bin2 addD (bin2 mulD (pureM (.int 7)) (un1 (fldD 0 2) (varM 8))) (un1 (fldD 0 0) (varM 8))))))) fun k => if k then (thenS (pureM (.bl false)) fun d _ => some (.rt d)) else nxS
def c_11 : Fo := thenS (andT (tst (bin2 ltD (un1 (fldD 0 2) (varM 8)) (pureM (.int 10)))) (tst (bin2 neD (methM 0 F_Spelled_shown (callM F_read_note (consM (varM 9) (pureM []))) (pureM [])) (methM 0 F_Spelled_shown (varM 8) (pureM []))))) fun k => if k then (thenS (pureM (.bl false)) fun d _ => some (.rt d)) else nxS
def c_12 : Fo := thenS (tupM (consM (bin2 subD (rollM 1 (pureM (.int 9))) (pureM (.int 4))) (consM (bin2 subD (rollM 1 (pureM (.int 15))) (pureM (.int 7))) (pureM [])))) fun d δ => (bTup (bCons (bName 15) (bCons (bName 16) (bNil))) d δ).map .nx
def c_13 : Fo := thenS (toldM NL (callM F_moved (consM (varM 8) (consM (varM 15) (consM (varM 16) (pureM [])))))) fun d δ => some (.nx (δ.set 10 (.val d)))
def c_14 : Fo := thenS (bin2 addD (methM 0 F_Spelled_place (varM 8) (pureM [])) (varM 15)) fun d δ => some (.nx (δ.set 11 (.val d)))
def c_15 : Fo := thenS (bin2 subD (bin2 subD (bin2 addD (varM 3) (varM 16)) (bin2 mulD (pureM (.int 12)) (bin2 fdivD (varM 11) (pureM (.int 7))))) (bin2 ixD (varM 4) (bin2 modD (varM 11) (pureM (.int 7))))) fun d δ => some (.nx (δ.set 12 (.val d)))
def c_16 : Fo := thenS (tst (chainM leD leD (bin2 subD (pureM (.int 0)) (pureM (.int 2))) (varM 12) (pureM (.int 2)))) fun k => if k then (thenS (orT (tst (bin2 neD (methM 0 F_Spelled_shown (varM 10) (pureM [])) (tupM (consM (bin2 modD (varM 11) (pureM (.int 7))) (consM (varM 12) (consM (bin2 fdivD (varM 11) (pureM (.int 7))) (pureM []))))))) (orT (tst (bin2 neD (callM F_apart (consM (varM 8) (consM (varM 10) (pureM [])))) (tupM (consM (varM 15) (consM (varM 16) (pureM [])))))) (tst (bin2 neD (methM 0 F_Spelled_note (varM 10) (pureM [])) (bin2 addD (varM 3) (varM 16)))))) fun k => if k then (thenS (pureM (.bl false)) fun d _ => some (.rt d)) else nxS) else (thenS (tst (bin2 neD (varM 10) (pureM (.str "note")))) fun k => if k then (thenS (pureM (.bl false)) fun d _ => some (.rt d)) else nxS)
def c_17 : Fo := thenS (bin2 addD (bin2 addD (varM 3) (pureM (.int 20))) (rollM 1 (pureM (.int 20)))) fun d δ => some (.nx (δ.set 13 (.val d)))
def c_18 : Fo := thenS (orT (tst (bin2 neD (callM F_turned (consM (callM F_turned (consM (varM 3) (consM (varM 13) (pureM [])))) (consM (varM 13) (pureM [])))) (varM 3))) (tst (bin2 neD (bin2 subD (callM F_turned (consM (varM 3) (consM (varM 13) (pureM [])))) (bin2 fdivD (varM 13) (pureM (.int 2)))) (bin2 subD (bin2 subD (varM 13) (bin2 fdivD (varM 13) (pureM (.int 2)))) (varM 3))))) fun k => if k then (thenS (pureM (.bl false)) fun d _ => some (.rt d)) else nxS
def b_body : Fo := seqS c_1 (seqS c_2 (seqS c_3 (seqS c_4 (seqS c_5 (seqS c_6 (freezeS 5 (seqS c_7 (seqS c_8 (seqS c_9 (seqS c_10 (seqS c_11 (seqS c_12 (seqS c_13 (seqS c_14 (seqS c_15 (seqS c_16 (seqS c_17 (c_18))))))))))))))))))
theorem fs_body {P : Program} {w : World} {K : PySem.W.Frag} {mg : Str → Option Value} {base : Heap} {cl : Nat → Addr} {C Pt : Addr} (T : TX K mg cl) (d_apart : FnD P w K mg base cl 3 "apart" F_apart) (d_check_note : FnD P w K mg base cl 1 "check_note" F_check_note) (d_class_of : FnD P w K mg base cl 1 "class_of" F_class_of) (i_Spelled : FnI P w K mg base cl 1 0 0 [] F_Spelled) (m_Spelled_note : FnM P w K mg base cl 3 0 "note" F_Spelled_note) (m_Spelled_place : FnM P w K mg base cl 1 0 "place" F_Spelled_place) (m_Spelled_shown : FnM P w K mg base cl 1 0 "shown" F_Spelled_shown) (m_Spelled_told : FnM P w K mg base cl 1 0 "told" F_Spelled_told) (d_moved : FnD P w K mg base cl 3 "moved" F_moved) (d_octave_of : FnD P w K mg base cl 1 "octave_of" F_octave_of) (d_read_note : FnD P w K mg base cl 3 "read_note" F_read_note) (d_spellings : FnD P w K mg base cl 3 "spellings" F_spellings) (d_turned : FnD P w K mg base cl 2 "turned" F_turned) (RD : RollD P w K mg base) (TD : ToldD P w K mg base cl NL) (tb : LamX.TabB base mg C Pt) (E : XK) :
  FS ⟨P, w, K, mg, base, ["script", "dice", "wrong", "note", "steps", "due", "octave", "every", "one", "text", "goal", "place", "signs", "about", "letter", "letters", "half", "pair", "size_now"], defScope s_law, 6, cl, E, fun _ => true, [(Pt, (("law" : Str) ++ (".<locals>." : Str)) ++ "<lambda>")], .ref C, ("law" : Str) ++ (".<locals>." : Str)⟩ (forBody (defBody s_law)) b_body :=
  have LD : LamD ⟨P, w, K, mg, base, ["script", "dice", "wrong", "note", "steps", "due", "octave", "every", "one", "text", "goal", "place", "signs", "about", "letter", "letters", "half", "pair", "size_now"], defScope s_law, 6, cl, E, fun _ => true, [(Pt, (("law" : Str) ++ (".<locals>." : Str)) ++ "<lambda>")], .ref C, ("law" : Str) ++ (".<locals>." : Str)⟩ C Pt := ⟨rfl, rfl, tb⟩
  (fs_cons (fs_set 3 sc_law.nd (fe_add fe_int (fe_roll 1 RD fe_int))) (fs_cons (fs_if (ft_w (fw_or (ft_ne (fe_call d_class_of (fa_cons (fe_var 3) fa_nil)) (fe_sub (fe_var 3) (fe_mul fe_int (fe_call d_octave_of (fa_cons (fe_var 3) fa_nil))))) (fw_or (ft_not (ft_lelt fe_int (fe_call d_class_of (fa_cons (fe_var 3) fa_nil)) fe_int)) (fw_or1 (ft_ne (fe_call d_check_note (fa_cons (fe_var 3) fa_nil)) (fe_var 3)))))) (fs_one (fs_ret fe_bl)) fs_nil) (fs_cons (fs_set 4 sc_law.nd (fe_lst (fa_cons fe_int (fa_cons fe_int (fa_cons fe_int (fa_cons fe_int (fa_cons fe_int (fa_cons fe_int (fa_cons fe_int fa_nil))))))))) (fs_cons (fs_setOwn 5 sc_law.nd fa_nil) (fs_cons (fs_for (fi_range1 T.b_range (fa_cons fe_int fa_nil)) (fg_name 6 sc_law.nd) (fs_one (fs_for (fi_range1 T.b_range (fa_cons fe_int fa_nil)) (fg_name 14 sc_law.nd) (fs_cons (fs_set 12 sc_law.nd (fe_sub (fe_sub (fe_var 3) (fe_mul fe_int (fe_var 6))) (fe_ix (fe_var 4) (fe_var 14)))) (fs_one (fs_if (ft_lele (fe_sub fe_int fe_int) (fe_var 12) fe_int) (fs_one (fs_append 5 (fe_tup (fa_cons (fe_abs T.b_abs (fa_cons (fe_var 12) fa_nil)) (fa_cons (fe_var 6) (fa_cons (fe_var 14) (fa_cons (fe_var 12) fa_nil))))))) fs_nil)))))) (fs_cons (fs_set 7 sc_law.nd (fe_call d_spellings (fa_cons (fe_var 3) fa_nil))) (fs_freeze 5 (fs_cons (fs_if (ft_ne (fe_lc [("one", 8)] sc_law.nd (fi_seq (fe_var 7)) (by kernel_rfl) (fg_name 8 sc_law.nd) fts_nil (fe_meth0 m_Spelled_shown (fe_var 8)) (by decide)) (fe_lc [("size_now", 18), ("octave", 6), ("letter", 14), ("signs", 12)] sc_law.nd (fi_seq (fe_sorted T.b_sorted (fa_cons (fe_var 5) fa_nil))) (by kernel_rfl) (fg_tup (fgs_cons (fg_name 18 sc_law.nd) (fgs_cons (fg_name 6 sc_law.nd) (fgs_cons (fg_name 14 sc_law.nd) (fgs_cons (fg_name 12 sc_law.nd) fgs_nil))))) fts_nil (fe_tup (fa_cons (fe_var 14) (fa_cons (fe_var 12) (fa_cons (fe_var 6) fa_nil)))) (by decide))) (fs_one (fs_ret fe_bl)) fs_nil) (fs_cons (fs_set 8 sc_law.nd (fe_ix (fe_var 7) (fe_roll 1 RD (fe_len T.b_len (fa_cons (fe_var 7) fa_nil))))) (fs_cons (fs_set 9 sc_law.nd (fe_add (fe_add (fe_ix fe_str (fe_fld 0 0 T.k_Spelled (fe_var 8))) (fe_mulA (fe_ite (ft_gt (fe_fld 0 1 T.k_Spelled (fe_var 8)) fe_int) fe_str fe_str) (fe_abs T.b_abs (fa_cons (fe_fld 0 1 T.k_Spelled (fe_var 8)) fa_nil)))) (fe_str1 T.b_str (fa_cons (fe_fld 0 2 T.k_Spelled (fe_var 8)) fa_nil)))) (fs_cons (fs_if (ft_w (fw_or (ft_ne (fe_meth0 m_Spelled_told (fe_var 8)) (fe_var 9)) (fw_or (ft_ne (fe_meth0 m_Spelled_note (fe_var 8)) (fe_var 3)) (fw_or1 (ft_ne (fe_meth0 m_Spelled_place (fe_var 8)) (fe_add (fe_mul fe_int (fe_fld 0 2 T.k_Spelled (fe_var 8))) (fe_fld 0 0 T.k_Spelled (fe_var 8)))))))) (fs_one (fs_ret fe_bl)) fs_nil) (fs_cons (fs_if (ft_w (fw_and (ft_lt (fe_fld 0 2 T.k_Spelled (fe_var 8)) fe_int) (fw_and1 (ft_ne (fe_meth0 m_Spelled_shown (fe_call d_read_note (fa_cons (fe_var 9) fa_nil))) (fe_meth0 m_Spelled_shown (fe_var 8)))))) (fs_one (fs_ret fe_bl)) fs_nil) (fs_cons (fs_asg (fe_tup (fa_cons (fe_sub (fe_roll 1 RD fe_int) fe_int) (fa_cons (fe_sub (fe_roll 1 RD fe_int) fe_int) fa_nil))) (fg_tup (fgs_cons (fg_name 15 sc_law.nd) (fgs_cons (fg_name 16 sc_law.nd) fgs_nil))) (hw := fun env h => by first | rfl | (cases env; cases h; rfl))) (fs_cons (fs_set 10 sc_law.nd (fe_told 3 TD LD (fun E => (fe_call d_moved (fa_cons (fe_var 8) (fa_cons (fe_var 15) (fa_cons (fe_var 16) fa_nil))))))) (fs_cons (fs_set 11 sc_law.nd (fe_add (fe_meth0 m_Spelled_place (fe_var 8)) (fe_var 15))) (fs_cons (fs_set 12 sc_law.nd (fe_sub (fe_sub (fe_add (fe_var 3) (fe_var 16)) (fe_mul fe_int (fe_fdiv (fe_var 11) fe_int))) (fe_ix (fe_var 4) (fe_mod (fe_var 11) fe_int)))) (fs_cons (fs_if (ft_lele (fe_sub fe_int fe_int) (fe_var 12) fe_int) (fs_one (fs_if (ft_w (fw_or (ft_ne (fe_meth0 m_Spelled_shown (fe_var 10)) (fe_tup (fa_cons (fe_mod (fe_var 11) fe_int) (fa_cons (fe_var 12) (fa_cons (fe_fdiv (fe_var 11) fe_int) fa_nil))))) (fw_or (ft_ne (fe_call d_apart (fa_cons (fe_var 8) (fa_cons (fe_var 10) fa_nil))) (fe_tup (fa_cons (fe_var 15) (fa_cons (fe_var 16) fa_nil)))) (fw_or1 (ft_ne (fe_meth0 m_Spelled_note (fe_var 10)) (fe_add (fe_var 3) (fe_var 16))))))) (fs_one (fs_ret fe_bl)) fs_nil)) (fs_one (fs_if (ft_ne (fe_var 10) fe_str) (fs_one (fs_ret fe_bl)) fs_nil))) (fs_cons (fs_set 13 sc_law.nd (fe_add (fe_add (fe_var 3) fe_int) (fe_roll 1 RD fe_int))) (fs_one (fs_if (ft_w (fw_or (ft_ne (fe_call d_turned (fa_cons (fe_call d_turned (fa_cons (fe_var 3) (fa_cons (fe_var 13) fa_nil))) (fa_cons (fe_var 13) fa_nil))) (fe_var 3)) (fw_or1 (ft_ne (fe_sub (fe_call d_turned (fa_cons (fe_var 3) (fa_cons (fe_var 13) fa_nil))) (fe_fdiv (fe_var 13) fe_int)) (fe_sub (fe_sub (fe_var 13) (fe_fdiv (fe_var 13) fe_int)) (fe_var 3)))))) (fs_one (fs_ret fe_bl)) fs_nil))))))))))))))))))))
noncomputable def b_rest : Fo := (seqS (thenS (lstM (consM (tupM (consM (pureM (.fn lam_13)) (consM (pureM (.str "note")) (pureM [])))) (consM (tupM (consM (pureM (.fn lam_12)) (consM (pureM (.str "note")) (pureM [])))) (consM (tupM (consM (pureM (.fn lam_11)) (consM (pureM (.str "note")) (pureM [])))) (consM (tupM (consM (pureM (.fn lam_10)) (consM (pureM (.str "note")) (pureM [])))) (consM (tupM (consM (pureM (.fn lam_9)) (consM (pureM (.str "note")) (pureM [])))) (consM (tupM (consM (pureM (.fn lam_8)) (consM (pureM (.str "note")) (pureM [])))) (consM (tupM (consM (pureM (.fn lam_7)) (consM (pureM (.str "note")) (pureM [])))) (consM (tupM (consM (pureM (.fn lam_6)) (consM (pureM (.str "note")) (pureM [])))) (consM (tupM (consM (pureM (.fn lam_5)) (consM (pureM (.str "text")) (pureM [])))) (consM (tupM (consM (pureM (.fn lam_4)) (consM (pureM (.str "text")) (pureM [])))) (consM (tupM (consM (pureM (.fn lam_3)) (consM (pureM (.str "text")) (pureM [])))) (consM (tupM (consM (pureM (.fn lam_2)) (consM (pureM (.str "text")) (pureM [])))) (consM (tupM (consM (pureM (.fn lam_1)) (consM (pureM (.str "text")) (pureM [])))) (consM (tupM (consM (pureM (.fn lam_0)) (consM (pureM (.str "text")) (pureM [])))) (pureM [])))))))))))))))) fun d δ => some (.nx (δ.set 2 (.val d)))) (thenS (andM (bin2 eqD (lcM [17] (bName 17) (tst (bin2 neD (toldK NL LT (bin2 ixD (varM 17) (pureM (.int 0)))) (bin2 ixD (varM 17) (pureM (.int 1))))) (varM 17) (seqM (varM 2))) (lstM (pureM []))) (bin2 eqD (lcM [3] (bName 3) (pureM true) (callM F_check_note (consM (varM 3) (pureM []))) (seqM (lstM (consM (pureM (.int 0)) (consM (pureM (.int 120)) (pureM [])))))) (lstM (consM (pureM (.int 0)) (consM (pureM (.int 120)) (pureM [])))))) fun d _ => some (.rt d)))
theorem fs_rest {P : Program} {w : World} {K : PySem.W.Frag} {mg : Str → Option Value} {base : Heap} {cl : Nat → Addr} {C Pt : Addr} (T : TX K mg cl) (d_apart : FnD P w K mg base cl 3 "apart" F_apart) (d_check_note : FnD P w K mg base cl 1 "check_note" F_check_note) (d_class_of : FnD P w K mg base cl 1 "class_of" F_class_of) (i_Spelled : FnI P w K mg base cl 1 0 0 [] F_Spelled) (m_Spelled_note : FnM P w K mg base cl 3 0 "note" F_Spelled_note) (m_Spelled_place : FnM P w K mg base cl 1 0 "place" F_Spelled_place) (m_Spelled_shown : FnM P w K mg base cl 1 0 "shown" F_Spelled_shown) (m_Spelled_told : FnM P w K mg base cl 1 0 "told" F_Spelled_told) (d_moved : FnD P w K mg base cl 3 "moved" F_moved) (d_octave_of : FnD P w K mg base cl 1 "octave_of" F_octave_of) (d_read_note : FnD P w K mg base cl 3 "read_note" F_read_note) (d_spellings : FnD P w K mg base cl 3 "spellings" F_spellings) (d_turned : FnD P w K mg base cl 2 "turned" F_turned) (RD : RollD P w K mg base) (TD : ToldD P w K mg base cl NL) (tb : LamX.TabB base mg C Pt) (E : XK) :
  FS ⟨P, w, K, mg, base, ["script", "dice", "wrong", "note", "steps", "due", "octave", "every", "one", "text", "goal", "place", "signs", "about", "letter", "letters", "half", "pair", "size_now"], defScope s_law, 6, cl, E, fun _ => true, [(Pt, (("law" : Str) ++ (".<locals>." : Str)) ++ "<lambda>")], .ref C, ("law" : Str) ++ (".<locals>." : Str)⟩ ((defBody s_law).tail) b_rest :=
  have LD : LamD ⟨P, w, K, mg, base, ["script", "dice", "wrong", "note", "steps", "due", "octave", "every", "one", "text", "goal", "place", "signs", "about", "letter", "letters", "half", "pair", "size_now"], defScope s_law, 6, cl, E, fun _ => true, [(Pt, (("law" : Str) ++ (".<locals>." : Str)) ++ "<lambda>")], .ref C, ("law" : Str) ++ (".<locals>." : Str)⟩ C Pt := ⟨rfl, rfl, tb⟩
  (fs_cons (fs_set 2 sc_law.nd (fe_lst (fa_cons (fe_tup (fa_cons (fe_lam 13 ⟨LD.code, LD.T, LD.tb⟩) (fa_cons fe_str fa_nil))) (fa_cons (fe_tup (fa_cons (fe_lam 12 ⟨LD.code, LD.T, LD.tb⟩) (fa_cons fe_str fa_nil))) (fa_cons (fe_tup (fa_cons (fe_lam 11 ⟨LD.code, LD.T, LD.tb⟩) (fa_cons fe_str fa_nil))) (fa_cons (fe_tup (fa_cons (fe_lam 10 ⟨LD.code, LD.T, LD.tb⟩) (fa_cons fe_str fa_nil))) (fa_cons (fe_tup (fa_cons (fe_lam 9 ⟨LD.code, LD.T, LD.tb⟩) (fa_cons fe_str fa_nil))) (fa_cons (fe_tup (fa_cons (fe_lam 8 ⟨LD.code, LD.T, LD.tb⟩) (fa_cons fe_str fa_nil))) (fa_cons (fe_tup (fa_cons (fe_lam 7 ⟨LD.code, LD.T, LD.tb⟩) (fa_cons fe_str fa_nil))) (fa_cons (fe_tup (fa_cons (fe_lam 6 ⟨LD.code, LD.T, LD.tb⟩) (fa_cons fe_str fa_nil))) (fa_cons (fe_tup (fa_cons (fe_lam 5 ⟨LD.code, LD.T, LD.tb⟩) (fa_cons fe_str fa_nil))) (fa_cons (fe_tup (fa_cons (fe_lam 4 ⟨LD.code, LD.T, LD.tb⟩) (fa_cons fe_str fa_nil))) (fa_cons (fe_tup (fa_cons (fe_lam 3 ⟨LD.code, LD.T, LD.tb⟩) (fa_cons fe_str fa_nil))) (fa_cons (fe_tup (fa_cons (fe_lam 2 ⟨LD.code, LD.T, LD.tb⟩) (fa_cons fe_str fa_nil))) (fa_cons (fe_tup (fa_cons (fe_lam 1 ⟨LD.code, LD.T, LD.tb⟩) (fa_cons fe_str fa_nil))) (fa_cons (fe_tup (fa_cons (fe_lam 0 ⟨LD.code, LD.T, LD.tb⟩) (fa_cons fe_str fa_nil))) fa_nil)))))))))))))))) (fs_one (fs_ret (fe_and (fe_eq (fe_lc [("pair", 17)] sc_law.nd (fi_seq (fe_var 2)) (by kernel_rfl) (fg_name 17 sc_law.nd) (fts_one (ft_ne (fe_toldK 3 TD ⟨LD.code, LD.T, LD.tb⟩ (lk_cons ⟨rfl, by kernel_rfl, rfl, by intros; rfl, fun E => (fe_call d_read_note (fa_cons fe_str fa_nil))⟩ (lk_cons ⟨rfl, by kernel_rfl, rfl, by intros; rfl, fun E => (fe_call d_read_note (fa_cons fe_str fa_nil))⟩ (lk_cons ⟨rfl, by kernel_rfl, rfl, by intros; rfl, fun E => (fe_call d_read_note (fa_cons fe_str fa_nil))⟩ (lk_cons ⟨rfl, by kernel_rfl, rfl, by intros; rfl, fun E => (fe_call d_read_note (fa_cons fe_str fa_nil))⟩ (lk_cons ⟨rfl, by kernel_rfl, rfl, by intros; rfl, fun E => (fe_call d_read_note (fa_cons fe_str fa_nil))⟩ (lk_cons ⟨rfl, by kernel_rfl, rfl, by intros; rfl, fun E => (fe_call d_read_note (fa_cons fe_str fa_nil))⟩ (lk_cons ⟨rfl, by kernel_rfl, rfl, by intros; rfl, fun E => (fe_call d_turned (fa_cons fe_int (fa_cons fe_int fa_nil)))⟩ (lk_cons ⟨rfl, by kernel_rfl, rfl, by intros; rfl, fun E => (fe_meth0 m_Spelled_note (fe_make i_Spelled (fa_cons fe_int (fa_cons (fe_sub fe_int fe_int) (fa_cons fe_int fa_nil)))))⟩ (lk_cons ⟨rfl, by kernel_rfl, rfl, by intros; rfl, fun E => (fe_make i_Spelled (fa_cons fe_int (fa_cons fe_int (fa_cons fe_int fa_nil))))⟩ (lk_cons ⟨rfl, by kernel_rfl, rfl, by intros; rfl, fun E => (fe_call d_turned (fa_cons fe_int (fa_cons fe_int fa_nil)))⟩ (lk_cons ⟨rfl, by kernel_rfl, rfl, by intros; rfl, fun E => (fe_make i_Spelled (fa_cons (fe_sub fe_int fe_int) (fa_cons fe_int (fa_cons fe_int fa_nil))))⟩ (lk_cons ⟨rfl, by kernel_rfl, rfl, by intros; rfl, fun E => (fe_make i_Spelled (fa_cons fe_int (fa_cons fe_int (fa_cons fe_int fa_nil))))⟩ (lk_cons ⟨rfl, by kernel_rfl, rfl, by intros; rfl, fun E => (fe_call d_check_note (fa_cons fe_int fa_nil))⟩ (lk_cons ⟨rfl, by kernel_rfl, rfl, by intros; rfl, fun E => (fe_call d_check_note (fa_cons (fe_sub fe_int fe_int) fa_nil))⟩ lk_nil)))))))))))))) (fe_ix (fe_var 17) fe_int)) (fe_ix (fe_var 17) fe_int))) (fe_var 17) (by decide)) (fe_lst fa_nil)) (fe_one (fe_eq (fe_lc [("note", 3)] sc_law.nd (fi_seq (fe_lst (fa_cons fe_int (fa_cons fe_int fa_nil)))) (by kernel_rfl) (fg_name 3 sc_law.nd) fts_nil (fe_call d_check_note (fa_cons (fe_var 3) fa_nil)) (by decide)) (fe_lst (fa_cons fe_int (fa_cons fe_int fa_nil)))))))))
end V
set_option maxHeartbeats 4000000
namespace V
open PySem PySem.Spec L2 FL
def Sn : List Int := [0, 2, 4, 5, 7, 9, 11]
def dueD (n : Int) : List D := (List.range 11).flatMap fun (o : Nat) => (List.range 7).filterMap fun (l : Nat) => let s := n - 12 * (o : Int) - Sn.getD l 0; if -2 ≤ s ∧ s ≤ 2 then some (.tup [.int (absI s), .int (o : Int), .int (l : Int), .int s]) else none
def evD (n : Int) : List D := match F_spellings [.int n] with | some (.ret (.tup l)) => l | _ => []
def stp : D := .lst [.int 0, .int 2, .int 4, .int 5, .int 7, .int 9, .int 11]
abbrev st1 (d : Sl) (n : Int) : De := [.un, d, .un, .val (.int n), .un, .un, .un, .un, .un, .un, .un, .un, .un, .un, .un, .un, .un, .un, .un]
def st7 (d : Sl) (n : Int) : De := [.un, d, .un, .val (.int n), .val stp, .val (.lst (dueD n)), .val (.int 10), .val (.tup (evD n)), .un, .un, .un, .un, .val (.int (n - 12 * 10 - 11)), .un, .val (.int 6), .un, .un, .un, .un]
def fA (r : Fo) : Fo := seqS c_2 (seqS c_3 (seqS c_4 (seqS c_5 (seqS c_6 (freezeS 5 (seqS c_7 r))))))
theorem tA_0 (d : Sl) (r : Fo) : fA r (st1 d (12 + ((0 : Nat) : Int))) = r (st7 d (12 + ((0 : Nat) : Int))) := by kernel_rfl
theorem tA_1 (d : Sl) (r : Fo) : fA r (st1 d (12 + ((1 : Nat) : Int))) = r (st7 d (12 + ((1 : Nat) : Int))) := by kernel_rfl
theorem tA_2 (d : Sl) (r : Fo) : fA r (st1 d (12 + ((2 : Nat) : Int))) = r (st7 d (12 + ((2 : Nat) : Int))) := by kernel_rfl
theorem tA_3 (d : Sl) (r : Fo) : fA r (st1 d (12 + ((3 : Nat) : Int))) = r (st7 d (12 + ((3 : Nat) : Int))) := by kernel_rfl
theorem tA_4 (d : Sl) (r : Fo) : fA r (st1 d (12 + ((4 : Nat) : Int))) = r (st7 d (12 + ((4 : Nat) : Int))) := by kernel_rfl
theorem tA_5 (d : Sl) (r : Fo) : fA r (st1 d (12 + ((5 : Nat) : Int))) = r (st7 d (12 + ((5 : Nat) : Int))) := by kernel_rfl
theorem tA_6 (d : Sl) (r : Fo) : fA r (st1 d (12 + ((6 : Nat) : Int))) = r (st7 d (12 + ((6 : Nat) : Int))) := by kernel_rfl
theorem tA_7 (d : Sl) (r : Fo) : fA r (st1 d (12 + ((7 : Nat) : Int))) = r (st7 d (12 + ((7 : Nat) : Int))) := by kernel_rfl
theorem tA_8 (d : Sl) (r : Fo) : fA r (st1 d (12 + ((8 : Nat) : Int))) = r (st7 d (12 + ((8 : Nat) : Int))) := by kernel_rfl
theorem tA_9 (d : Sl) (r : Fo) : fA r (st1 d (12 + ((9 : Nat) : Int))) = r (st7 d (12 + ((9 : Nat) : Int))) := by kernel_rfl
theorem tA_10 (d : Sl) (r : Fo) : fA r (st1 d (12 + ((10 : Nat) : Int))) = r (st7 d (12 + ((10 : Nat) : Int))) := by kernel_rfl
theorem tA_11 (d : Sl) (r : Fo) : fA r (st1 d (12 + ((11 : Nat) : Int))) = r (st7 d (12 + ((11 : Nat) : Int))) := by kernel_rfl
theorem tA_12 (d : Sl) (r : Fo) : fA r (st1 d (12 + ((12 : Nat) : Int))) = r (st7 d (12 + ((12 : Nat) : Int))) := by kernel_rfl
theorem tA_13 (d : Sl) (r : Fo) : fA r (st1 d (12 + ((13 : Nat) : Int))) = r (st7 d (12 + ((13 : Nat) : Int))) := by kernel_rfl
theorem tA_14 (d : Sl) (r : Fo) : fA r (st1 d (12 + ((14 : Nat) : Int))) = r (st7 d (12 + ((14 : Nat) : Int))) := by kernel_rfl
theorem tA_15 (d : Sl) (r : Fo) : fA r (st1 d (12 + ((15 : Nat) : Int))) = r (st7 d (12 + ((15 : Nat) : Int))) := by kernel_rfl
theorem tA_16 (d : Sl) (r : Fo) : fA r (st1 d (12 + ((16 : Nat) : Int))) = r (st7 d (12 + ((16 : Nat) : Int))) := by kernel_rfl
theorem tA_17 (d : Sl) (r : Fo) : fA r (st1 d (12 + ((17 : Nat) : Int))) = r (st7 d (12 + ((17 : Nat) : Int))) := by kernel_rfl
theorem tA_18 (d : Sl) (r : Fo) : fA r (st1 d (12 + ((18 : Nat) : Int))) = r (st7 d (12 + ((18 : Nat) : Int))) := by kernel_rfl
theorem tA_19 (d : Sl) (r : Fo) : fA r (st1 d (12 + ((19 : Nat) : Int))) = r (st7 d (12 + ((19 : Nat) : Int))) := by kernel_rfl
theorem tA_20 (d : Sl) (r : Fo) : fA r (st1 d (12 + ((20 : Nat) : Int))) = r (st7 d (12 + ((20 : Nat) : Int))) := by kernel_rfl
theorem tA_21 (d : Sl) (r : Fo) : fA r (st1 d (12 + ((21 : Nat) : Int))) = r (st7 d (12 + ((21 : Nat) : Int))) := by kernel_rfl
theorem tA_22 (d : Sl) (r : Fo) : fA r (st1 d (12 + ((22 : Nat) : Int))) = r (st7 d (12 + ((22 : Nat) : Int))) := by kernel_rfl
theorem tA_23 (d : Sl) (r : Fo) : fA r (st1 d (12 + ((23 : Nat) : Int))) = r (st7 d (12 + ((23 : Nat) : Int))) := by kernel_rfl
theorem tA_24 (d : Sl) (r : Fo) : fA r (st1 d (12 + ((24 : Nat) : Int))) = r (st7 d (12 + ((24 : Nat) : Int))) := by kernel_rfl
theorem tA_25 (d : Sl) (r : Fo) : fA r (st1 d (12 + ((25 : Nat) : Int))) = r (st7 d (12 + ((25 : Nat) : Int))) := by kernel_rfl
theorem tA_26 (d : Sl) (r : Fo) : fA r (st1 d (12 + ((26 : Nat) : Int))) = r (st7 d (12 + ((26 : Nat) : Int))) := by kernel_rfl
theorem tA_27 (d : Sl) (r : Fo) : fA r (st1 d (12 + ((27 : Nat) : Int))) = r (st7 d (12 + ((27 : Nat) : Int))) := by kernel_rfl
theorem tA_28 (d : Sl) (r : Fo) : fA r (st1 d (12 + ((28 : Nat) : Int))) = r (st7 d (12 + ((28 : Nat) : Int))) := by kernel_rfl
theorem tA_29 (d : Sl) (r : Fo) : fA r (st1 d (12 + ((29 : Nat) : Int))) = r (st7 d (12 + ((29 : Nat) : Int))) := by kernel_rfl
theorem tA_30 (d : Sl) (r : Fo) : fA r (st1 d (12 + ((30 : Nat) : Int))) = r (st7 d (12 + ((30 : Nat) : Int))) := by kernel_rfl
theorem tA_31 (d : Sl) (r : Fo) : fA r (st1 d (12 + ((31 : Nat) : Int))) = r (st7 d (12 + ((31 : Nat) : Int))) := by kernel_rfl
theorem tA_32 (d : Sl) (r : Fo) : fA r (st1 d (12 + ((32 : Nat) : Int))) = r (st7 d (12 + ((32 : Nat) : Int))) := by kernel_rfl
theorem tA_33 (d : Sl) (r : Fo) : fA r (st1 d (12 + ((33 : Nat) : Int))) = r (st7 d (12 + ((33 : Nat) : Int))) := by kernel_rfl
theorem tA_34 (d : Sl) (r : Fo) : fA r (st1 d (12 + ((34 : Nat) : Int))) = r (st7 d (12 + ((34 : Nat) : Int))) := by kernel_rfl
theorem tA_35 (d : Sl) (r : Fo) : fA r (st1 d (12 + ((35 : Nat) : Int))) = r (st7 d (12 + ((35 : Nat) : Int))) := by kernel_rfl
theorem tA_36 (d : Sl) (r : Fo) : fA r (st1 d (12 + ((36 : Nat) : Int))) = r (st7 d (12 + ((36 : Nat) : Int))) := by kernel_rfl
theorem tA_37 (d : Sl) (r : Fo) : fA r (st1 d (12 + ((37 : Nat) : Int))) = r (st7 d (12 + ((37 : Nat) : Int))) := by kernel_rfl
theorem tA_38 (d : Sl) (r : Fo) : fA r (st1 d (12 + ((38 : Nat) : Int))) = r (st7 d (12 + ((38 : Nat) : Int))) := by kernel_rfl
theorem tA_39 (d : Sl) (r : Fo) : fA r (st1 d (12 + ((39 : Nat) : Int))) = r (st7 d (12 + ((39 : Nat) : Int))) := by kernel_rfl
theorem tA_40 (d : Sl) (r : Fo) : fA r (st1 d (12 + ((40 : Nat) : Int))) = r (st7 d (12 + ((40 : Nat) : Int))) := by kernel_rfl
theorem tA_41 (d : Sl) (r : Fo) : fA r (st1 d (12 + ((41 : Nat) : Int))) = r (st7 d (12 + ((41 : Nat) : Int))) := by kernel_rfl
theorem tA_42 (d : Sl) (r : Fo) : fA r (st1 d (12 + ((42 : Nat) : Int))) = r (st7 d (12 + ((42 : Nat) : Int))) := by kernel_rfl
theorem tA_43 (d : Sl) (r : Fo) : fA r (st1 d (12 + ((43 : Nat) : Int))) = r (st7 d (12 + ((43 : Nat) : Int))) := by kernel_rfl
theorem tA_44 (d : Sl) (r : Fo) : fA r (st1 d (12 + ((44 : Nat) : Int))) = r (st7 d (12 + ((44 : Nat) : Int))) := by kernel_rfl
theorem tA_45 (d : Sl) (r : Fo) : fA r (st1 d (12 + ((45 : Nat) : Int))) = r (st7 d (12 + ((45 : Nat) : Int))) := by kernel_rfl
theorem tA_46 (d : Sl) (r : Fo) : fA r (st1 d (12 + ((46 : Nat) : Int))) = r (st7 d (12 + ((46 : Nat) : Int))) := by kernel_rfl
theorem tA_47 (d : Sl) (r : Fo) : fA r (st1 d (12 + ((47 : Nat) : Int))) = r (st7 d (12 + ((47 : Nat) : Int))) := by kernel_rfl
theorem tA_48 (d : Sl) (r : Fo) : fA r (st1 d (12 + ((48 : Nat) : Int))) = r (st7 d (12 + ((48 : Nat) : Int))) := by kernel_rfl
theorem tA_49 (d : Sl) (r : Fo) : fA r (st1 d (12 + ((49 : Nat) : Int))) = r (st7 d (12 + ((49 : Nat) : Int))) := by kernel_rfl
theorem tA_50 (d : Sl) (r : Fo) : fA r (st1 d (12 + ((50 : Nat) : Int))) = r (st7 d (12 + ((50 : Nat) : Int))) := by kernel_rfl
theorem tA_51 (d : Sl) (r : Fo) : fA r (st1 d (12 + ((51 : Nat) : Int))) = r (st7 d (12 + ((51 : Nat) : Int))) := by kernel_rfl
theorem tA_52 (d : Sl) (r : Fo) : fA r (st1 d (12 + ((52 : Nat) : Int))) = r (st7 d (12 + ((52 : Nat) : Int))) := by kernel_rfl
theorem tA_53 (d : Sl) (r : Fo) : fA r (st1 d (12 + ((53 : Nat) : Int))) = r (st7 d (12 + ((53 : Nat) : Int))) := by kernel_rfl
theorem tA_54 (d : Sl) (r : Fo) : fA r (st1 d (12 + ((54 : Nat) : Int))) = r (st7 d (12 + ((54 : Nat) : Int))) := by kernel_rfl
theorem tA_55 (d : Sl) (r : Fo) : fA r (st1 d (12 + ((55 : Nat) : Int))) = r (st7 d (12 + ((55 : Nat) : Int))) := by kernel_rfl
theorem tA_56 (d : Sl) (r : Fo) : fA r (st1 d (12 + ((56 : Nat) : Int))) = r (st7 d (12 + ((56 : Nat) : Int))) := by kernel_rfl
theorem tA_57 (d : Sl) (r : Fo) : fA r (st1 d (12 + ((57 : Nat) : Int))) = r (st7 d (12 + ((57 : Nat) : Int))) := by kernel_rfl
theorem tA_58 (d : Sl) (r : Fo) : fA r (st1 d (12 + ((58 : Nat) : Int))) = r (st7 d (12 + ((58 : Nat) : Int))) := by kernel_rfl
theorem tA_59 (d : Sl) (r : Fo) : fA r (st1 d (12 + ((59 : Nat) : Int))) = r (st7 d (12 + ((59 : Nat) : Int))) := by kernel_rfl
theorem tA_60 (d : Sl) (r : Fo) : fA r (st1 d (12 + ((60 : Nat) : Int))) = r (st7 d (12 + ((60 : Nat) : Int))) := by kernel_rfl
theorem tA_61 (d : Sl) (r : Fo) : fA r (st1 d (12 + ((61 : Nat) : Int))) = r (st7 d (12 + ((61 : Nat) : Int))) := by kernel_rfl
theorem tA_62 (d : Sl) (r : Fo) : fA r (st1 d (12 + ((62 : Nat) : Int))) = r (st7 d (12 + ((62 : Nat) : Int))) := by kernel_rfl
theorem tA_63 (d : Sl) (r : Fo) : fA r (st1 d (12 + ((63 : Nat) : Int))) = r (st7 d (12 + ((63 : Nat) : Int))) := by kernel_rfl
theorem tA_64 (d : Sl) (r : Fo) : fA r (st1 d (12 + ((64 : Nat) : Int))) = r (st7 d (12 + ((64 : Nat) : Int))) := by kernel_rfl
theorem tA_65 (d : Sl) (r : Fo) : fA r (st1 d (12 + ((65 : Nat) : Int))) = r (st7 d (12 + ((65 : Nat) : Int))) := by kernel_rfl
theorem tA_66 (d : Sl) (r : Fo) : fA r (st1 d (12 + ((66 : Nat) : Int))) = r (st7 d (12 + ((66 : Nat) : Int))) := by kernel_rfl
theorem tA_67 (d : Sl) (r : Fo) : fA r (st1 d (12 + ((67 : Nat) : Int))) = r (st7 d (12 + ((67 : Nat) : Int))) := by kernel_rfl
theorem tA_68 (d : Sl) (r : Fo) : fA r (st1 d (12 + ((68 : Nat) : Int))) = r (st7 d (12 + ((68 : Nat) : Int))) := by kernel_rfl
theorem tA_69 (d : Sl) (r : Fo) : fA r (st1 d (12 + ((69 : Nat) : Int))) = r (st7 d (12 + ((69 : Nat) : Int))) := by kernel_rfl
theorem tA_70 (d : Sl) (r : Fo) : fA r (st1 d (12 + ((70 : Nat) : Int))) = r (st7 d (12 + ((70 : Nat) : Int))) := by kernel_rfl
theorem tA_71 (d : Sl) (r : Fo) : fA r (st1 d (12 + ((71 : Nat) : Int))) = r (st7 d (12 + ((71 : Nat) : Int))) := by kernel_rfl
theorem tA_72 (d : Sl) (r : Fo) : fA r (st1 d (12 + ((72 : Nat) : Int))) = r (st7 d (12 + ((72 : Nat) : Int))) := by kernel_rfl
theorem tA_73 (d : Sl) (r : Fo) : fA r (st1 d (12 + ((73 : Nat) : Int))) = r (st7 d (12 + ((73 : Nat) : Int))) := by kernel_rfl
theorem tA_74 (d : Sl) (r : Fo) : fA r (st1 d (12 + ((74 : Nat) : Int))) = r (st7 d (12 + ((74 : Nat) : Int))) := by kernel_rfl
theorem tA_75 (d : Sl) (r : Fo) : fA r (st1 d (12 + ((75 : Nat) : Int))) = r (st7 d (12 + ((75 : Nat) : Int))) := by kernel_rfl
theorem tA_76 (d : Sl) (r : Fo) : fA r (st1 d (12 + ((76 : Nat) : Int))) = r (st7 d (12 + ((76 : Nat) : Int))) := by kernel_rfl
theorem tA_77 (d : Sl) (r : Fo) : fA r (st1 d (12 + ((77 : Nat) : Int))) = r (st7 d (12 + ((77 : Nat) : Int))) := by kernel_rfl
theorem tA_78 (d : Sl) (r : Fo) : fA r (st1 d (12 + ((78 : Nat) : Int))) = r (st7 d (12 + ((78 : Nat) : Int))) := by kernel_rfl
theorem tA_79 (d : Sl) (r : Fo) : fA r (st1 d (12 + ((79 : Nat) : Int))) = r (st7 d (12 + ((79 : Nat) : Int))) := by kernel_rfl
theorem tA_80 (d : Sl) (r : Fo) : fA r (st1 d (12 + ((80 : Nat) : Int))) = r (st7 d (12 + ((80 : Nat) : Int))) := by kernel_rfl
theorem tA_81 (d : Sl) (r : Fo) : fA r (st1 d (12 + ((81 : Nat) : Int))) = r (st7 d (12 + ((81 : Nat) : Int))) := by kernel_rfl
theorem tA_82 (d : Sl) (r : Fo) : fA r (st1 d (12 + ((82 : Nat) : Int))) = r (st7 d (12 + ((82 : Nat) : Int))) := by kernel_rfl
theorem tA_83 (d : Sl) (r : Fo) : fA r (st1 d (12 + ((83 : Nat) : Int))) = r (st7 d (12 + ((83 : Nat) : Int))) := by kernel_rfl
theorem tA_84 (d : Sl) (r : Fo) : fA r (st1 d (12 + ((84 : Nat) : Int))) = r (st7 d (12 + ((84 : Nat) : Int))) := by kernel_rfl
theorem tA_85 (d : Sl) (r : Fo) : fA r (st1 d (12 + ((85 : Nat) : Int))) = r (st7 d (12 + ((85 : Nat) : Int))) := by kernel_rfl
theorem tA_86 (d : Sl) (r : Fo) : fA r (st1 d (12 + ((86 : Nat) : Int))) = r (st7 d (12 + ((86 : Nat) : Int))) := by kernel_rfl
theorem tA_87 (d : Sl) (r : Fo) : fA r (st1 d (12 + ((87 : Nat) : Int))) = r (st7 d (12 + ((87 : Nat) : Int))) := by kernel_rfl
theorem tA_88 (d : Sl) (r : Fo) : fA r (st1 d (12 + ((88 : Nat) : Int))) = r (st7 d (12 + ((88 : Nat) : Int))) := by kernel_rfl
theorem tA_89 (d : Sl) (r : Fo) : fA r (st1 d (12 + ((89 : Nat) : Int))) = r (st7 d (12 + ((89 : Nat) : Int))) := by kernel_rfl
theorem tA_90 (d : Sl) (r : Fo) : fA r (st1 d (12 + ((90 : Nat) : Int))) = r (st7 d (12 + ((90 : Nat) : Int))) := by kernel_rfl
theorem tA_91 (d : Sl) (r : Fo) : fA r (st1 d (12 + ((91 : Nat) : Int))) = r (st7 d (12 + ((91 : Nat) : Int))) := by kernel_rfl
theorem tA_92 (d : Sl) (r : Fo) : fA r (st1 d (12 + ((92 : Nat) : Int))) = r (st7 d (12 + ((92 : Nat) : Int))) := by kernel_rfl
theorem tA_93 (d : Sl) (r : Fo) : fA r (st1 d (12 + ((93 : Nat) : Int))) = r (st7 d (12 + ((93 : Nat) : Int))) := by kernel_rfl
theorem tA_94 (d : Sl) (r : Fo) : fA r (st1 d (12 + ((94 : Nat) : Int))) = r (st7 d (12 + ((94 : Nat) : Int))) := by kernel_rfl
theorem tA_95 (d : Sl) (r : Fo) : fA r (st1 d (12 + ((95 : Nat) : Int))) = r (st7 d (12 + ((95 : Nat) : Int))) := by kernel_rfl
theorem tA_96 (d : Sl) (r : Fo) : fA r (st1 d (12 + ((96 : Nat) : Int))) = r (st7 d (12 + ((96 : Nat) : Int))) := by kernel_rfl
theorem tA0 : ∀ k ∈ [0, 1, 2, 3, 4, 5, 6, 7, 8, 9, 10, 11, 12, 13, 14, 15, 16, 17, 18, 19, 20, 21, 22, 23, 24, 25, 26, 27, 28, 29, 30, 31, 32, 33, 34, 35, 36, 37, 38, 39, 40, 41, 42, 43, 44, 45, 46, 47, 48, 49, 50, 51, 52, 53, 54, 55, 56, 57, 58, 59, 60, 61, 62, 63, 64, 65, 66, 67, 68, 69, 70, 71, 72, 73, 74, 75, 76, 77, 78, 79, 80, 81, 82, 83, 84, 85, 86, 87, 88, 89, 90, 91, 92, 93, 94, 95, 96], ∀ (d : Sl) (r : Fo), fA r (st1 d (12 + ((k : Nat) : Int))) = r (st7 d (12 + (k : Int))) :=
  (lst_cons tA_0
  (lst_cons tA_1
  (lst_cons tA_2
  (lst_cons tA_3
  (lst_cons tA_4
  (lst_cons tA_5
  (lst_cons tA_6
  (lst_cons tA_7
  (lst_cons tA_8
  (lst_cons tA_9
  (lst_cons tA_10
  (lst_cons tA_11
  (lst_cons tA_12
  (lst_cons tA_13
  (lst_cons tA_14
  (lst_cons tA_15
  (lst_cons tA_16
  (lst_cons tA_17
  (lst_cons tA_18
  (lst_cons tA_19
  (lst_cons tA_20
  (lst_cons tA_21
  (lst_cons tA_22
  (lst_cons tA_23
  (lst_cons tA_24
  (lst_cons tA_25
  (lst_cons tA_26
  (lst_cons tA_27
  (lst_cons tA_28
  (lst_cons tA_29
  (lst_cons tA_30
  (lst_cons tA_31
  (lst_cons tA_32
  (lst_cons tA_33
  (lst_cons tA_34
  (lst_cons tA_35
  (lst_cons tA_36
  (lst_cons tA_37
  (lst_cons tA_38
  (lst_cons tA_39
  (lst_cons tA_40
  (lst_cons tA_41
  (lst_cons tA_42
  (lst_cons tA_43
  (lst_cons tA_44
  (lst_cons tA_45
  (lst_cons tA_46
  (lst_cons tA_47
  (lst_cons tA_48
  (lst_cons tA_49
  (lst_cons tA_50
  (lst_cons tA_51
  (lst_cons tA_52
  (lst_cons tA_53
  (lst_cons tA_54
  (lst_cons tA_55
  (lst_cons tA_56
  (lst_cons tA_57
  (lst_cons tA_58
  (lst_cons tA_59
  (lst_cons tA_60
  (lst_cons tA_61
  (lst_cons tA_62
  (lst_cons tA_63
  (lst_cons tA_64
  (lst_cons tA_65
  (lst_cons tA_66
  (lst_cons tA_67
  (lst_cons tA_68
  (lst_cons tA_69
  (lst_cons tA_70
  (lst_cons tA_71
  (lst_cons tA_72
  (lst_cons tA_73
  (lst_cons tA_74
  (lst_cons tA_75
  (lst_cons tA_76
  (lst_cons tA_77
  (lst_cons tA_78
  (lst_cons tA_79
  (lst_cons tA_80
  (lst_cons tA_81
  (lst_cons tA_82
  (lst_cons tA_83
  (lst_cons tA_84
  (lst_cons tA_85
  (lst_cons tA_86
  (lst_cons tA_87
  (lst_cons tA_88
  (lst_cons tA_89
  (lst_cons tA_90
  (lst_cons tA_91
  (lst_cons tA_92
  (lst_cons tA_93
  (lst_cons tA_94
  (lst_cons tA_95
  (lst_cons tA_96 lst_nil)))))))))))))))))))))))))))))))))))))))))))))))))))))))))))))))))))))))))))))))))))))))))))))))))
theorem tA {k : Nat} (hk : k < 97) (d : Sl) (r : Fo) : fA r (st1 d (12 + (k : Int))) = r (st7 d (12 + (k : Int))) := tA0 k (by
  have : k ∈ List.range 97 := List.mem_range.mpr hk
  exact this) d r
def goodE (n : Int) (d : D) : Bool := match d with
  | .ins 0 [.int l, .int s, .int o] => decide (0 ≤ l ∧ l < 7 ∧ -2 ≤ s ∧ s ≤ 2 ∧ -1 ≤ o ∧ o ≤ 10 ∧ n = 12 * o + Sn.getD l.toNat 0 + s)
  | _ => false
theorem evGood : ∀ k ∈ List.range 97, (evD (12 + ((k : Nat) : Int))).length ≠ 0 ∧ (evD (12 + (k : Int))).length < 100 ∧ (evD (12 + (k : Int))).all (goodE (12 + (k : Int))) = true := by decide +kernel
def PL : List (Nat × Nat) := [(0, 0), (0, 1), (0, 2), (1, 0), (1, 1), (1, 2), (2, 0), (2, 1), (2, 2), (3, 0), (3, 1), (3, 2), (4, 0), (4, 1), (4, 2), (5, 0), (5, 1), (5, 2), (6, 0), (6, 1), (6, 2), (7, 0), (7, 1), (7, 2), (8, 0), (8, 1), (9, 0), (9, 1), (9, 2), (10, 0), (10, 1), (10, 2), (11, 0), (11, 1), (11, 2), (12, 0), (12, 1), (12, 2), (13, 0), (13, 1), (13, 2), (14, 0), (14, 1), (14, 2), (15, 0), (15, 1), (15, 2), (16, 0), (16, 1), (16, 2), (17, 0), (17, 1), (17, 2), (18, 0), (18, 1), (18, 2), (19, 0), (19, 1), (19, 2), (20, 0), (20, 1), (21, 0), (21, 1), (21, 2), (22, 0), (22, 1), (22, 2), (23, 0), (23, 1), (23, 2), (24, 0), (24, 1), (24, 2), (25, 0), (25, 1), (25, 2), (26, 0), (26, 1), (26, 2), (27, 0), (27, 1), (27, 2), (28, 0), (28, 1), (28, 2), (29, 0), (29, 1), (29, 2), (30, 0), (30, 1), (30, 2), (31, 0), (31, 1), (31, 2), (32, 0), (32, 1), (33, 0), (33, 1), (33, 2), (34, 0), (34, 1), (34, 2), (35, 0), (35, 1), (35, 2), (36, 0), (36, 1), (36, 2), (37, 0), (37, 1), (37, 2), (38, 0), (38, 1), (38, 2), (39, 0), (39, 1), (39, 2), (40, 0), (40, 1), (40, 2), (41, 0), (41, 1), (41, 2), (42, 0), (42, 1), (42, 2), (43, 0), (43, 1), (43, 2), (44, 0), (44, 1), (45, 0), (45, 1), (45, 2), (46, 0), (46, 1), (46, 2), (47, 0), (47, 1), (47, 2), (48, 0), (48, 1), (48, 2), (49, 0), (49, 1), (49, 2), (50, 0), (50, 1), (50, 2), (51, 0), (51, 1), (51, 2), (52, 0), (52, 1), (52, 2), (53, 0), (53, 1), (53, 2), (54, 0), (54, 1), (54, 2), (55, 0), (55, 1), (55, 2), (56, 0), (56, 1), (57, 0), (57, 1), (57, 2), (58, 0), (58, 1), (58, 2), (59, 0), (59, 1), (59, 2), (60, 0), (60, 1), (60, 2), (61, 0), (61, 1), (61, 2), (62, 0), (62, 1), (62, 2), (63, 0), (63, 1), (63, 2), (64, 0), (64, 1), (64, 2), (65, 0), (65, 1), (65, 2), (66, 0), (66, 1), (66, 2), (67, 0), (67, 1), (67, 2), (68, 0), (68, 1), (69, 0), (69, 1), (69, 2), (70, 0), (70, 1), (70, 2), (71, 0), (71, 1), (71, 2), (72, 0), (72, 1), (72, 2), (73, 0), (73, 1), (73, 2), (74, 0), (74, 1), (74, 2), (75, 0), (75, 1), (75, 2), (76, 0), (76, 1), (76, 2), (77, 0), (77, 1), (77, 2), (78, 0), (78, 1), (78, 2), (79, 0), (79, 1), (79, 2), (80, 0), (80, 1), (81, 0), (81, 1), (81, 2), (82, 0), (82, 1), (82, 2), (83, 0), (83, 1), (83, 2), (84, 0), (84, 1), (84, 2), (85, 0), (85, 1), (85, 2), (86, 0), (86, 1), (86, 2), (87, 0), (87, 1), (87, 2), (88, 0), (88, 1), (88, 2), (89, 0), (89, 1), (89, 2), (90, 0), (90, 1), (90, 2), (91, 0), (91, 1), (91, 2), (92, 0), (92, 1), (93, 0), (93, 1), (93, 2), (94, 0), (94, 1), (94, 2), (95, 0), (95, 1), (95, 2), (96, 0), (96, 1), (96, 2)]
theorem evPL : ((List.range 97).all fun k => (List.range (evD (12 + ((k : Nat) : Int))).length).all fun j => PL.contains (k, j)) = true := by decide +kernel
def st8 (d : Sl) (n : Int) (one : D) : De := [.un, d, .un, .val (.int n), .val stp, .val (.lst (dueD n)), .val (.int 10), .val (.tup (evD n)), .val one, .un, .un, .un, .val (.int (n - 12 * 10 - 11)), .un, .val (.int 6), .un, .un, .un, .un]
def txD (one : D) : D := match F_Spelled_told [one] with | some (.ret t) => t | _ => .non
def st11 (d : Sl) (n : Int) (one : D) : De := [.un, d, .un, .val (.int n), .val stp, .val (.lst (dueD n)), .val (.int 10), .val (.tup (evD n)), .val one, .val (txD one), .un, .un, .val (.int (n - 12 * 10 - 11)), .un, .val (.int 6), .un, .un, .un, .un]
def fB (r : Fo) : Fo := seqS c_9 (seqS c_10 (seqS c_11 r))
def PB (p : Nat × Nat) : Prop := ∀ (d : Sl) (r : Fo), fB r (st8 d (12 + (p.1 : Int)) ((evD (12 + (p.1 : Int))).getD p.2 .non)) = r (st11 d (12 + (p.1 : Int)) ((evD (12 + (p.1 : Int))).getD p.2 .non))

theorem tB_0_0 : PB (0, 0) := fun d r => by kernel_rfl
theorem tB_0_1 : PB (0, 1) := fun d r => by kernel_rfl
theorem tB_0_2 : PB (0, 2) := fun d r => by kernel_rfl
theorem tB_1_0 : PB (1, 0) := fun d r => by kernel_rfl
theorem tB_1_1 : PB (1, 1) := fun d r => by kernel_rfl
theorem tB_1_2 : PB (1, 2) := fun d r => by kernel_rfl
theorem tB_2_0 : PB (2, 0) := fun d r => by kernel_rfl
theorem tB_2_1 : PB (2, 1) := fun d r => by kernel_rfl
theorem tB_2_2 : PB (2, 2) := fun d r => by kernel_rfl
theorem tB_3_0 : PB (3, 0) := fun d r => by kernel_rfl
theorem tB_3_1 : PB (3, 1) := fun d r => by kernel_rfl
theorem tB_3_2 : PB (3, 2) := fun d r => by kernel_rfl
theorem tB_4_0 : PB (4, 0) := fun d r => by kernel_rfl
theorem tB_4_1 : PB (4, 1) := fun d r => by kernel_rfl
theorem tB_4_2 : PB (4, 2) := fun d r => by kernel_rfl
theorem tB_5_0 : PB (5, 0) := fun d r => by kernel_rfl
theorem tB_5_1 : PB (5, 1) := fun d r => by kernel_rfl
theorem tB_5_2 : PB (5, 2) := fun d r => by kernel_rfl
theorem tB_6_0 : PB (6, 0) := fun d r => by kernel_rfl
theorem tB_6_1 : PB (6, 1) := fun d r => by kernel_rfl
theorem tB_6_2 : PB (6, 2) := fun d r => by kernel_rfl
theorem tB_7_0 : PB (7, 0) := fun d r => by kernel_rfl
theorem tB_7_1 : PB (7, 1) := fun d r => by kernel_rfl
theorem tB_7_2 : PB (7, 2) := fun d r => by kernel_rfl
theorem tB_8_0 : PB (8, 0) := fun d r => by kernel_rfl
theorem tB_8_1 : PB (8, 1) := fun d r => by kernel_rfl
theorem tB_9_0 : PB (9, 0) := fun d r => by kernel_rfl
theorem tB_9_1 : PB (9, 1) := fun d r => by kernel_rfl
theorem tB_9_2 : PB (9, 2) := fun d r => by kernel_rfl
theorem tB_10_0 : PB (10, 0) := fun d r => by kernel_rfl
theorem tB_10_1 : PB (10, 1) := fun d r => by kernel_rfl
theorem tB_10_2 : PB (10, 2) := fun d r => by kernel_rfl
theorem tB_11_0 : PB (11, 0) := fun d r => by kernel_rfl
theorem tB_11_1 : PB (11, 1) := fun d r => by kernel_rfl
theorem tB_11_2 : PB (11, 2) := fun d r => by kernel_rfl
theorem tB_12_0 : PB (12, 0) := fun d r => by kernel_rfl
theorem tB_12_1 : PB (12, 1) := fun d r => by kernel_rfl
theorem tB_12_2 : PB (12, 2) := fun d r => by kernel_rfl
theorem tB_13_0 : PB (13, 0) := fun d r => by kernel_rfl
theorem tB_13_1 : PB (13, 1) := fun d r => by kernel_rfl
theorem tB_13_2 : PB (13, 2) := fun d r => by kernel_rfl
theorem tB_14_0 : PB (14, 0) := fun d r => by kernel_rfl
theorem tB_14_1 : PB (14, 1) := fun d r => by kernel_rfl
theorem tB_14_2 : PB (14, 2) := fun d r => by kernel_rfl
theorem tB_15_0 : PB (15, 0) := fun d r => by kernel_rfl
theorem tB_15_1 : PB (15, 1) := fun d r => by kernel_rfl
theorem tB_15_2 : PB (15, 2) := fun d r => by kernel_rfl
theorem tB_16_0 : PB (16, 0) := fun d r => by kernel_rfl
theorem tB_16_1 : PB (16, 1) := fun d r => by kernel_rfl
theorem tB_16_2 : PB (16, 2) := fun d r => by kernel_rfl
theorem tB_17_0 : PB (17, 0) := fun d r => by kernel_rfl
theorem tB_17_1 : PB (17, 1) := fun d r => by kernel_rfl
theorem tB_17_2 : PB (17, 2) := fun d r => by kernel_rfl
theorem tB_18_0 : PB (18, 0) := fun d r => by kernel_rfl
theorem tB_18_1 : PB (18, 1) := fun d r => by kernel_rfl
theorem tB_18_2 : PB (18, 2) := fun d r => by kernel_rfl
theorem tB_19_0 : PB (19, 0) := fun d r => by kernel_rfl
theorem tB_19_1 : PB (19, 1) := fun d r => by kernel_rfl
theorem tB_19_2 : PB (19, 2) := fun d r => by kernel_rfl
theorem tB_20_0 : PB (20, 0) := fun d r => by kernel_rfl
theorem tB_20_1 : PB (20, 1) := fun d r => by kernel_rfl
theorem tB_21_0 : PB (21, 0) := fun d r => by kernel_rfl
theorem tB_21_1 : PB (21, 1) := fun d r => by kernel_rfl
theorem tB_21_2 : PB (21, 2) := fun d r => by kernel_rfl
theorem tB_22_0 : PB (22, 0) := fun d r => by kernel_rfl
theorem tB_22_1 : PB (22, 1) := fun d r => by kernel_rfl
theorem tB_22_2 : PB (22, 2) := fun d r => by kernel_rfl
theorem tB_23_0 : PB (23, 0) := fun d r => by kernel_rfl
theorem tB_23_1 : PB (23, 1) := fun d r => by kernel_rfl
theorem tB_23_2 : PB (23, 2) := fun d r => by kernel_rfl
theorem tB_24_0 : PB (24, 0) := fun d r => by kernel_rfl
theorem tB_24_1 : PB (24, 1) := fun d r => by kernel_rfl
theorem tB_24_2 : PB (24, 2) := fun d r => by kernel_rfl
theorem tB_25_0 : PB (25, 0) := fun d r => by kernel_rfl
theorem tB_25_1 : PB (25, 1) := fun d r => by kernel_rfl
theorem tB_25_2 : PB (25, 2) := fun d r => by kernel_rfl
theorem tB_26_0 : PB (26, 0) := fun d r => by kernel_rfl
theorem tB_26_1 : PB (26, 1) := fun d r => by kernel_rfl
theorem tB_26_2 : PB (26, 2) := fun d r => by kernel_rfl
theorem tB_27_0 : PB (27, 0) := fun d r => by kernel_rfl
theorem tB_27_1 : PB (27, 1) := fun d r => by kernel_rfl
theorem tB_27_2 : PB (27, 2) := fun d r => by kernel_rfl
theorem tB_28_0 : PB (28, 0) := fun d r => by kernel_rfl
theorem tB_28_1 : PB (28, 1) := fun d r => by kernel_rfl
theorem tB_28_2 : PB (28, 2) := fun d r => by kernel_rfl
theorem tB_29_0 : PB (29, 0) := fun d r => by kernel_rfl
theorem tB_29_1 : PB (29, 1) := fun d r => by kernel_rfl
theorem tB_29_2 : PB (29, 2) := fun d r => by kernel_rfl
theorem tB_30_0 : PB (30, 0) := fun d r => by kernel_rfl
theorem tB_30_1 : PB (30, 1) := fun d r => by kernel_rfl
theorem tB_30_2 : PB (30, 2) := fun d r => by kernel_rfl
theorem tB_31_0 : PB (31, 0) := fun d r => by kernel_rfl
theorem tB_31_1 : PB (31, 1) := fun d r => by kernel_rfl
theorem tB_31_2 : PB (31, 2) := fun d r => by kernel_rfl
theorem tB_32_0 : PB (32, 0) := fun d r => by kernel_rfl
theorem tB_32_1 : PB (32, 1) := fun d r => by kernel_rfl
theorem tB_33_0 : PB (33, 0) := fun d r => by kernel_rfl
theorem tB_33_1 : PB (33, 1) := fun d r => by kernel_rfl
theorem tB_33_2 : PB (33, 2) := fun d r => by kernel_rfl
theorem tB_34_0 : PB (34, 0) := fun d r => by kernel_rfl
theorem tB_34_1 : PB (34, 1) := fun d r => by kernel_rfl
theorem tB_34_2 : PB (34, 2) := fun d r => by kernel_rfl
theorem tB_35_0 : PB (35, 0) := fun d r => by kernel_rfl
theorem tB_35_1 : PB (35, 1) := fun d r => by kernel_rfl
theorem tB_35_2 : PB (35, 2) := fun d r => by kernel_rfl
theorem tB_36_0 : PB (36, 0) := fun d r => by kernel_rfl
theorem tB_36_1 : PB (36, 1) := fun d r => by kernel_rfl
theorem tB_36_2 : PB (36, 2) := fun d r => by kernel_rfl
theorem tB_37_0 : PB (37, 0) := fun d r => by kernel_rfl
theorem tB_37_1 : PB (37, 1) := fun d r => by kernel_rfl
theorem tB_37_2 : PB (37, 2) := fun d r => by kernel_rfl
theorem tB_38_0 : PB (38, 0) := fun d r => by kernel_rfl
theorem tB_38_1 : PB (38, 1) := fun d r => by kernel_rfl
theorem tB_38_2 : PB (38, 2) := fun d r => by kernel_rfl
theorem tB_39_0 : PB (39, 0) := fun d r => by kernel_rfl
theorem tB_39_1 : PB (39, 1) := fun d r => by kernel_rfl
theorem tB_39_2 : PB (39, 2) := fun d r => by kernel_rfl
theorem tB_40_0 : PB (40, 0) := fun d r => by kernel_rfl
theorem tB_40_1 : PB (40, 1) := fun d r => by kernel_rfl
theorem tB_40_2 : PB (40, 2) := fun d r => by kernel_rfl
theorem tB_41_0 : PB (41, 0) := fun d r => by kernel_rfl
theorem tB_41_1 : PB (41, 1) := fun d r => by kernel_rfl
theorem tB_41_2 : PB (41, 2) := fun d r => by kernel_rfl
theorem tB_42_0 : PB (42, 0) := fun d r => by kernel_rfl
theorem tB_42_1 : PB (42, 1) := fun d r => by kernel_rfl
theorem tB_42_2 : PB (42, 2) := fun d r => by kernel_rfl
theorem tB_43_0 : PB (43, 0) := fun d r => by kernel_rfl
theorem tB_43_1 : PB (43, 1) := fun d r => by kernel_rfl
theorem tB_43_2 : PB (43, 2) := fun d r => by kernel_rfl
theorem tB_44_0 : PB (44, 0) := fun d r => by kernel_rfl
theorem tB_44_1 : PB (44, 1) := fun d r => by kernel_rfl
theorem tB_45_0 : PB (45, 0) := fun d r => by kernel_rfl
theorem tB_45_1 : PB (45, 1) := fun d r => by kernel_rfl
theorem tB_45_2 : PB (45, 2) := fun d r => by kernel_rfl
theorem tB_46_0 : PB (46, 0) := fun d r => by kernel_rfl
theorem tB_46_1 : PB (46, 1) := fun d r => by kernel_rfl
theorem tB_46_2 : PB (46, 2) := fun d r => by kernel_rfl
theorem tB_47_0 : PB (47, 0) := fun d r => by kernel_rfl
theorem tB_47_1 : PB (47, 1) := fun d r => by kernel_rfl
theorem tB_47_2 : PB (47, 2) := fun d r => by kernel_rfl
theorem tB_48_0 : PB (48, 0) := fun d r => by kernel_rfl
theorem tB_48_1 : PB (48, 1) := fun d r => by kernel_rfl
theorem tB_48_2 : PB (48, 2) := fun d r => by kernel_rfl
theorem tB_49_0 : PB (49, 0) := fun d r => by kernel_rfl
theorem tB_49_1 : PB (49, 1) := fun d r => by kernel_rfl
theorem tB_49_2 : PB (49, 2) := fun d r => by kernel_rfl
theorem tB_50_0 : PB (50, 0) := fun d r => by kernel_rfl
theorem tB_50_1 : PB (50, 1) := fun d r => by kernel_rfl
theorem tB_50_2 : PB (50, 2) := fun d r => by kernel_rfl
theorem tB_51_0 : PB (51, 0) := fun d r => by kernel_rfl
theorem tB_51_1 : PB (51, 1) := fun d r => by kernel_rfl
theorem tB_51_2 : PB (51, 2) := fun d r => by kernel_rfl
theorem tB_52_0 : PB (52, 0) := fun d r => by kernel_rfl
theorem tB_52_1 : PB (52, 1) := fun d r => by kernel_rfl
theorem tB_52_2 : PB (52, 2) := fun d r => by kernel_rfl
theorem tB_53_0 : PB (53, 0) := fun d r => by kernel_rfl
theorem tB_53_1 : PB (53, 1) := fun d r => by kernel_rfl
theorem tB_53_2 : PB (53, 2) := fun d r => by kernel_rfl
theorem tB_54_0 : PB (54, 0) := fun d r => by kernel_rfl
theorem tB_54_1 : PB (54, 1) := fun d r => by kernel_rfl
theorem tB_54_2 : PB (54, 2) := fun d r => by kernel_rfl
theorem tB_55_0 : PB (55, 0) := fun d r => by kernel_rfl
theorem tB_55_1 : PB (55, 1) := fun d r => by kernel_rfl
theorem tB_55_2 : PB (55, 2) := fun d r => by kernel_rfl
theorem tB_56_0 : PB (56, 0) := fun d r => by kernel_rfl
theorem tB_56_1 : PB (56, 1) := fun d r => by kernel_rfl
theorem tB_57_0 : PB (57, 0) := fun d r => by kernel_rfl
theorem tB_57_1 : PB (57, 1) := fun d r => by kernel_rfl
theorem tB_57_2 : PB (57, 2) := fun d r => by kernel_rfl
theorem tB_58_0 : PB (58, 0) := fun d r => by kernel_rfl
theorem tB_58_1 : PB (58, 1) := fun d r => by kernel_rfl
theorem tB_58_2 : PB (58, 2) := fun d r => by kernel_rfl
theorem tB_59_0 : PB (59, 0) := fun d r => by kernel_rfl
theorem tB_59_1 : PB (59, 1) := fun d r => by kernel_rfl
theorem tB_59_2 : PB (59, 2) := fun d r => by kernel_rfl
theorem tB_60_0 : PB (60, 0) := fun d r => by kernel_rfl
theorem tB_60_1 : PB (60, 1) := fun d r => by kernel_rfl
theorem tB_60_2 : PB (60, 2) := fun d r => by kernel_rfl
theorem tB_61_0 : PB (61, 0) := fun d r => by kernel_rfl
theorem tB_61_1 : PB (61, 1) := fun d r => by kernel_rfl
theorem tB_61_2 : PB (61, 2) := fun d r => by kernel_rfl
theorem tB_62_0 : PB (62, 0) := fun d r => by kernel_rfl
theorem tB_62_1 : PB (62, 1) := fun d r => by kernel_rfl
theorem tB_62_2 : PB (62, 2) := fun d r => by kernel_rfl
theorem tB_63_0 : PB (63, 0) := fun d r => by kernel_rfl
theorem tB_63_1 : PB (63, 1) := fun d r => by kernel_rfl
theorem tB_63_2 : PB (63, 2) := fun d r => by kernel_rfl
theorem tB_64_0 : PB (64, 0) := fun d r => by kernel_rfl
theorem tB_64_1 : PB (64, 1) := fun d r => by kernel_rfl
theorem tB_64_2 : PB (64, 2) := fun d r => by kernel_rfl
theorem tB_65_0 : PB (65, 0) := fun d r => by kernel_rfl
theorem tB_65_1 : PB (65, 1) := fun d r => by kernel_rfl
theorem tB_65_2 : PB (65, 2) := fun d r => by kernel_rfl
theorem tB_66_0 : PB (66, 0) := fun d r => by kernel_rfl
theorem tB_66_1 : PB (66, 1) := fun d r => by kernel_rfl
theorem tB_66_2 : PB (66, 2) := fun d r => by kernel_rfl
theorem tB_67_0 : PB (67, 0) := fun d r => by kernel_rfl
theorem tB_67_1 : PB (67, 1) := fun d r => by kernel_rfl
theorem tB_67_2 : PB (67, 2) := fun d r => by kernel_rfl
theorem tB_68_0 : PB (68, 0) := fun d r => by kernel_rfl
theorem tB_68_1 : PB (68, 1) := fun d r => by kernel_rfl
theorem tB_69_0 : PB (69, 0) := fun d r => by kernel_rfl
theorem tB_69_1 : PB (69, 1) := fun d r => by kernel_rfl
theorem tB_69_2 : PB (69, 2) := fun d r => by kernel_rfl
theorem tB_70_0 : PB (70, 0) := fun d r => by kernel_rfl
theorem tB_70_1 : PB (70, 1) := fun d r => by kernel_rfl
theorem tB_70_2 : PB (70, 2) := fun d r => by kernel_rfl
theorem tB_71_0 : PB (71, 0) := fun d r => by kernel_rfl
theorem tB_71_1 : PB (71, 1) := fun d r => by kernel_rfl
theorem tB_71_2 : PB (71, 2) := fun d r => by kernel_rfl
theorem tB_72_0 : PB (72, 0) := fun d r => by kernel_rfl
theorem tB_72_1 : PB (72, 1) := fun d r => by kernel_rfl
theorem tB_72_2 : PB (72, 2) := fun d r => by kernel_rfl
theorem tB_73_0 : PB (73, 0) := fun d r => by kernel_rfl
theorem tB_73_1 : PB (73, 1) := fun d r => by kernel_rfl
theorem tB_73_2 : PB (73, 2) := fun d r => by kernel_rfl
theorem tB_74_0 : PB (74, 0) := fun d r => by kernel_rfl
theorem tB_74_1 : PB (74, 1) := fun d r => by kernel_rfl
theorem tB_74_2 : PB (74, 2) := fun d r => by kernel_rfl
theorem tB_75_0 : PB (75, 0) := fun d r => by kernel_rfl
theorem tB_75_1 : PB (75, 1) := fun d r => by kernel_rfl
theorem tB_75_2 : PB (75, 2) := fun d r => by kernel_rfl
theorem tB_76_0 : PB (76, 0) := fun d r => by kernel_rfl
theorem tB_76_1 : PB (76, 1) := fun d r => by kernel_rfl
theorem tB_76_2 : PB (76, 2) := fun d r => by kernel_rfl
theorem tB_77_0 : PB (77, 0) := fun d r => by kernel_rfl
theorem tB_77_1 : PB (77, 1) := fun d r => by kernel_rfl
theorem tB_77_2 : PB (77, 2) := fun d r => by kernel_rfl
theorem tB_78_0 : PB (78, 0) := fun d r => by kernel_rfl
theorem tB_78_1 : PB (78, 1) := fun d r => by kernel_rfl
theorem tB_78_2 : PB (78, 2) := fun d r => by kernel_rfl
theorem tB_79_0 : PB (79, 0) := fun d r => by kernel_rfl
theorem tB_79_1 : PB (79, 1) := fun d r => by kernel_rfl
theorem tB_79_2 : PB (79, 2) := fun d r => by kernel_rfl
theorem tB_80_0 : PB (80, 0) := fun d r => by kernel_rfl
theorem tB_80_1 : PB (80, 1) := fun d r => by kernel_rfl
theorem tB_81_0 : PB (81, 0) := fun d r => by kernel_rfl
theorem tB_81_1 : PB (81, 1) := fun d r => by kernel_rfl
theorem tB_81_2 : PB (81, 2) := fun d r => by kernel_rfl
theorem tB_82_0 : PB (82, 0) := fun d r => by kernel_rfl
theorem tB_82_1 : PB (82, 1) := fun d r => by kernel_rfl
theorem tB_82_2 : PB (82, 2) := fun d r => by kernel_rfl
theorem tB_83_0 : PB (83, 0) := fun d r => by kernel_rfl
theorem tB_83_1 : PB (83, 1) := fun d r => by kernel_rfl
theorem tB_83_2 : PB (83, 2) := fun d r => by kernel_rfl
theorem tB_84_0 : PB (84, 0) := fun d r => by kernel_rfl
theorem tB_84_1 : PB (84, 1) := fun d r => by kernel_rfl
theorem tB_84_2 : PB (84, 2) := fun d r => by kernel_rfl
theorem tB_85_0 : PB (85, 0) := fun d r => by kernel_rfl
theorem tB_85_1 : PB (85, 1) := fun d r => by kernel_rfl
theorem tB_85_2 : PB (85, 2) := fun d r => by kernel_rfl
theorem tB_86_0 : PB (86, 0) := fun d r => by kernel_rfl
theorem tB_86_1 : PB (86, 1) := fun d r => by kernel_rfl
theorem tB_86_2 : PB (86, 2) := fun d r => by kernel_rfl
theorem tB_87_0 : PB (87, 0) := fun d r => by kernel_rfl
theorem tB_87_1 : PB (87, 1) := fun d r => by kernel_rfl
theorem tB_87_2 : PB (87, 2) := fun d r => by kernel_rfl
theorem tB_88_0 : PB (88, 0) := fun d r => by kernel_rfl
theorem tB_88_1 : PB (88, 1) := fun d r => by kernel_rfl
theorem tB_88_2 : PB (88, 2) := fun d r => by kernel_rfl
theorem tB_89_0 : PB (89, 0) := fun d r => by kernel_rfl
theorem tB_89_1 : PB (89, 1) := fun d r => by kernel_rfl
theorem tB_89_2 : PB (89, 2) := fun d r => by kernel_rfl
theorem tB_90_0 : PB (90, 0) := fun d r => by kernel_rfl
theorem tB_90_1 : PB (90, 1) := fun d r => by kernel_rfl
theorem tB_90_2 : PB (90, 2) := fun d r => by kernel_rfl
theorem tB_91_0 : PB (91, 0) := fun d r => by kernel_rfl
theorem tB_91_1 : PB (91, 1) := fun d r => by kernel_rfl
theorem tB_91_2 : PB (91, 2) := fun d r => by kernel_rfl
theorem tB_92_0 : PB (92, 0) := fun d r => by kernel_rfl
theorem tB_92_1 : PB (92, 1) := fun d r => by kernel_rfl
theorem tB_93_0 : PB (93, 0) := fun d r => by kernel_rfl
theorem tB_93_1 : PB (93, 1) := fun d r => by kernel_rfl
theorem tB_93_2 : PB (93, 2) := fun d r => by kernel_rfl
theorem tB_94_0 : PB (94, 0) := fun d r => by kernel_rfl
theorem tB_94_1 : PB (94, 1) := fun d r => by kernel_rfl
theorem tB_94_2 : PB (94, 2) := fun d r => by kernel_rfl
theorem tB_95_0 : PB (95, 0) := fun d r => by kernel_rfl
theorem tB_95_1 : PB (95, 1) := fun d r => by kernel_rfl
theorem tB_95_2 : PB (95, 2) := fun d r => by kernel_rfl
theorem tB_96_0 : PB (96, 0) := fun d r => by kernel_rfl
theorem tB_96_1 : PB (96, 1) := fun d r => by kernel_rfl
theorem tB_96_2 : PB (96, 2) := fun d r => by kernel_rfl
theorem tB0 : ∀ p ∈ [(0, 0), (0, 1), (0, 2), (1, 0), (1, 1), (1, 2), (2, 0), (2, 1), (2, 2), (3, 0), (3, 1), (3, 2), (4, 0), (4, 1), (4, 2), (5, 0), (5, 1), (5, 2), (6, 0), (6, 1), (6, 2), (7, 0), (7, 1), (7, 2), (8, 0), (8, 1), (9, 0), (9, 1), (9, 2), (10, 0), (10, 1), (10, 2), (11, 0), (11, 1), (11, 2), (12, 0), (12, 1), (12, 2), (13, 0), (13, 1), (13, 2), (14, 0), (14, 1), (14, 2), (15, 0), (15, 1), (15, 2), (16, 0), (16, 1), (16, 2), (17, 0), (17, 1), (17, 2), (18, 0), (18, 1), (18, 2), (19, 0), (19, 1), (19, 2), (20, 0), (20, 1), (21, 0), (21, 1), (21, 2), (22, 0), (22, 1), (22, 2), (23, 0), (23, 1), (23, 2), (24, 0), (24, 1), (24, 2), (25, 0), (25, 1), (25, 2), (26, 0), (26, 1), (26, 2), (27, 0), (27, 1), (27, 2), (28, 0), (28, 1), (28, 2), (29, 0), (29, 1), (29, 2), (30, 0), (30, 1), (30, 2), (31, 0), (31, 1), (31, 2), (32, 0), (32, 1), (33, 0), (33, 1), (33, 2), (34, 0), (34, 1), (34, 2), (35, 0), (35, 1), (35, 2), (36, 0), (36, 1), (36, 2), (37, 0), (37, 1), (37, 2), (38, 0), (38, 1), (38, 2), (39, 0), (39, 1), (39, 2), (40, 0), (40, 1), (40, 2), (41, 0), (41, 1), (41, 2), (42, 0), (42, 1), (42, 2), (43, 0), (43, 1), (43, 2), (44, 0), (44, 1), (45, 0), (45, 1), (45, 2), (46, 0), (46, 1), (46, 2), (47, 0), (47, 1), (47, 2), (48, 0), (48, 1), (48, 2), (49, 0), (49, 1), (49, 2), (50, 0), (50, 1), (50, 2), (51, 0), (51, 1), (51, 2), (52, 0), (52, 1), (52, 2), (53, 0), (53, 1), (53, 2), (54, 0), (54, 1), (54, 2), (55, 0), (55, 1), (55, 2), (56, 0), (56, 1), (57, 0), (57, 1), (57, 2), (58, 0), (58, 1), (58, 2), (59, 0), (59, 1), (59, 2), (60, 0), (60, 1), (60, 2), (61, 0), (61, 1), (61, 2), (62, 0), (62, 1), (62, 2), (63, 0), (63, 1), (63, 2), (64, 0), (64, 1), (64, 2), (65, 0), (65, 1), (65, 2), (66, 0), (66, 1), (66, 2), (67, 0), (67, 1), (67, 2), (68, 0), (68, 1), (69, 0), (69, 1), (69, 2), (70, 0), (70, 1), (70, 2), (71, 0), (71, 1), (71, 2), (72, 0), (72, 1), (72, 2), (73, 0), (73, 1), (73, 2), (74, 0), (74, 1), (74, 2), (75, 0), (75, 1), (75, 2), (76, 0), (76, 1), (76, 2), (77, 0), (77, 1), (77, 2), (78, 0), (78, 1), (78, 2), (79, 0), (79, 1), (79, 2), (80, 0), (80, 1), (81, 0), (81, 1), (81, 2), (82, 0), (82, 1), (82, 2), (83, 0), (83, 1), (83, 2), (84, 0), (84, 1), (84, 2), (85, 0), (85, 1), (85, 2), (86, 0), (86, 1), (86, 2), (87, 0), (87, 1), (87, 2), (88, 0), (88, 1), (88, 2), (89, 0), (89, 1), (89, 2), (90, 0), (90, 1), (90, 2), (91, 0), (91, 1), (91, 2), (92, 0), (92, 1), (93, 0), (93, 1), (93, 2), (94, 0), (94, 1), (94, 2), (95, 0), (95, 1), (95, 2), (96, 0), (96, 1), (96, 2)], PB p :=
  (lst_cons tB_0_0
  (lst_cons tB_0_1
  (lst_cons tB_0_2
  (lst_cons tB_1_0
  (lst_cons tB_1_1
  (lst_cons tB_1_2
  (lst_cons tB_2_0
  (lst_cons tB_2_1
  (lst_cons tB_2_2
  (lst_cons tB_3_0
  (lst_cons tB_3_1
  (lst_cons tB_3_2
  (lst_cons tB_4_0
  (lst_cons tB_4_1
  (lst_cons tB_4_2
  (lst_cons tB_5_0
  (lst_cons tB_5_1
  (lst_cons tB_5_2
  (lst_cons tB_6_0
  (lst_cons tB_6_1
  (lst_cons tB_6_2
  (lst_cons tB_7_0
  (lst_cons tB_7_1
  (lst_cons tB_7_2
  (lst_cons tB_8_0
  (lst_cons tB_8_1
  (lst_cons tB_9_0
  (lst_cons tB_9_1
  (lst_cons tB_9_2
  (lst_cons tB_10_0
  (lst_cons tB_10_1
  (lst_cons tB_10_2
  (lst_cons tB_11_0
  (lst_cons tB_11_1
  (lst_cons tB_11_2
  (lst_cons tB_12_0
  (lst_cons tB_12_1
  (lst_cons tB_12_2
  (lst_cons tB_13_0
  (lst_cons tB_13_1
  (lst_cons tB_13_2
  (lst_cons tB_14_0
  (lst_cons tB_14_1
  (lst_cons tB_14_2
  (lst_cons tB_15_0
  (lst_cons tB_15_1
  (lst_cons tB_15_2
  (lst_cons tB_16_0
  (lst_cons tB_16_1
  (lst_cons tB_16_2
  (lst_cons tB_17_0
  (lst_cons tB_17_1
  (lst_cons tB_17_2
  (lst_cons tB_18_0
  (lst_cons tB_18_1
  (lst_cons tB_18_2
  (lst_cons tB_19_0
  (lst_cons tB_19_1
  (lst_cons tB_19_2
  (lst_cons tB_20_0
  (lst_cons tB_20_1
  (lst_cons tB_21_0
  (lst_cons tB_21_1
  (lst_cons tB_21_2
  (lst_cons tB_22_0
  (lst_cons tB_22_1
  (lst_cons tB_22_2
  (lst_cons tB_23_0
  (lst_cons tB_23_1
  (lst_cons tB_23_2
  (lst_cons tB_24_0
  (lst_cons tB_24_1
  (lst_cons tB_24_2
  (lst_cons tB_25_0
  (lst_cons tB_25_1
  (lst_cons tB_25_2
  (lst_cons tB_26_0
  (lst_cons tB_26_1
  (lst_cons tB_26_2
  (lst_cons tB_27_0
  (lst_cons tB_27_1
  (lst_cons tB_27_2
  (lst_cons tB_28_0
  (lst_cons tB_28_1
  (lst_cons tB_28_2
  (lst_cons tB_29_0
  (lst_cons tB_29_1
  (lst_cons tB_29_2
  (lst_cons tB_30_0
  (lst_cons tB_30_1
  (lst_cons tB_30_2
  (lst_cons tB_31_0
  (lst_cons tB_31_1
  (lst_cons tB_31_2
  (lst_cons tB_32_0
  (lst_cons tB_32_1
  (lst_cons tB_33_0
  (lst_cons tB_33_1
  (lst_cons tB_33_2
  (lst_cons tB_34_0
  (lst_cons tB_34_1
  (lst_cons tB_34_2
  (lst_cons tB_35_0
  (lst_cons tB_35_1
  (lst_cons tB_35_2
  (lst_cons tB_36_0
  (lst_cons tB_36_1
  (lst_cons tB_36_2
  (lst_cons tB_37_0
  (lst_cons tB_37_1
  (lst_cons tB_37_2
  (lst_cons tB_38_0
  (lst_cons tB_38_1
  (lst_cons tB_38_2
  (lst_cons tB_39_0
  (lst_cons tB_39_1
  (lst_cons tB_39_2
  (lst_cons tB_40_0
  (lst_cons tB_40_1
  (lst_cons tB_40_2
  (lst_cons tB_41_0
  (lst_cons tB_41_1
  (lst_cons tB_41_2
  (lst_cons tB_42_0
  (lst_cons tB_42_1
  (lst_cons tB_42_2
  (lst_cons tB_43_0
  (lst_cons tB_43_1
  (lst_cons tB_43_2
  (lst_cons tB_44_0
  (lst_cons tB_44_1
  (lst_cons tB_45_0
  (lst_cons tB_45_1
  (lst_cons tB_45_2
  (lst_cons tB_46_0
  (lst_cons tB_46_1
  (lst_cons tB_46_2
  (lst_cons tB_47_0
  (lst_cons tB_47_1
  (lst_cons tB_47_2
  (lst_cons tB_48_0
  (lst_cons tB_48_1
  (lst_cons tB_48_2
  (lst_cons tB_49_0
  (lst_cons tB_49_1
  (lst_cons tB_49_2
  (lst_cons tB_50_0
  (lst_cons tB_50_1
  (lst_cons tB_50_2
  (lst_cons tB_51_0
  (lst_cons tB_51_1
  (lst_cons tB_51_2
  (lst_cons tB_52_0
  (lst_cons tB_52_1
  (lst_cons tB_52_2
  (lst_cons tB_53_0
  (lst_cons tB_53_1
  (lst_cons tB_53_2
  (lst_cons tB_54_0
  (lst_cons tB_54_1
  (lst_cons tB_54_2
  (lst_cons tB_55_0
  (lst_cons tB_55_1
  (lst_cons tB_55_2
  (lst_cons tB_56_0
  (lst_cons tB_56_1
  (lst_cons tB_57_0
  (lst_cons tB_57_1
  (lst_cons tB_57_2
  (lst_cons tB_58_0
  (lst_cons tB_58_1
  (lst_cons tB_58_2
  (lst_cons tB_59_0
  (lst_cons tB_59_1
  (lst_cons tB_59_2
  (lst_cons tB_60_0
  (lst_cons tB_60_1
  (lst_cons tB_60_2
  (lst_cons tB_61_0
  (lst_cons tB_61_1
  (lst_cons tB_61_2
  (lst_cons tB_62_0
  (lst_cons tB_62_1
  (lst_cons tB_62_2
  (lst_cons tB_63_0
  (lst_cons tB_63_1
  (lst_cons tB_63_2
  (lst_cons tB_64_0
  (lst_cons tB_64_1
  (lst_cons tB_64_2
  (lst_cons tB_65_0
  (lst_cons tB_65_1
  (lst_cons tB_65_2
  (lst_cons tB_66_0
  (lst_cons tB_66_1
  (lst_cons tB_66_2
  (lst_cons tB_67_0
  (lst_cons tB_67_1
  (lst_cons tB_67_2
  (lst_cons tB_68_0
  (lst_cons tB_68_1
  (lst_cons tB_69_0
  (lst_cons tB_69_1
  (lst_cons tB_69_2
  (lst_cons tB_70_0
  (lst_cons tB_70_1
  (lst_cons tB_70_2
  (lst_cons tB_71_0
  (lst_cons tB_71_1
  (lst_cons tB_71_2
  (lst_cons tB_72_0
  (lst_cons tB_72_1
  (lst_cons tB_72_2
  (lst_cons tB_73_0
  (lst_cons tB_73_1
  (lst_cons tB_73_2
  (lst_cons tB_74_0
  (lst_cons tB_74_1
  (lst_cons tB_74_2
  (lst_cons tB_75_0
  (lst_cons tB_75_1
  (lst_cons tB_75_2
  (lst_cons tB_76_0
  (lst_cons tB_76_1
  (lst_cons tB_76_2
  (lst_cons tB_77_0
  (lst_cons tB_77_1
  (lst_cons tB_77_2
  (lst_cons tB_78_0
  (lst_cons tB_78_1
  (lst_cons tB_78_2
  (lst_cons tB_79_0
  (lst_cons tB_79_1
  (lst_cons tB_79_2
  (lst_cons tB_80_0
  (lst_cons tB_80_1
  (lst_cons tB_81_0
  (lst_cons tB_81_1
  (lst_cons tB_81_2
  (lst_cons tB_82_0
  (lst_cons tB_82_1
  (lst_cons tB_82_2
  (lst_cons tB_83_0
  (lst_cons tB_83_1
  (lst_cons tB_83_2
  (lst_cons tB_84_0
  (lst_cons tB_84_1
  (lst_cons tB_84_2
  (lst_cons tB_85_0
  (lst_cons tB_85_1
  (lst_cons tB_85_2
  (lst_cons tB_86_0
  (lst_cons tB_86_1
  (lst_cons tB_86_2
  (lst_cons tB_87_0
  (lst_cons tB_87_1
  (lst_cons tB_87_2
  (lst_cons tB_88_0
  (lst_cons tB_88_1
  (lst_cons tB_88_2
  (lst_cons tB_89_0
  (lst_cons tB_89_1
  (lst_cons tB_89_2
  (lst_cons tB_90_0
  (lst_cons tB_90_1
  (lst_cons tB_90_2
  (lst_cons tB_91_0
  (lst_cons tB_91_1
  (lst_cons tB_91_2
  (lst_cons tB_92_0
  (lst_cons tB_92_1
  (lst_cons tB_93_0
  (lst_cons tB_93_1
  (lst_cons tB_93_2
  (lst_cons tB_94_0
  (lst_cons tB_94_1
  (lst_cons tB_94_2
  (lst_cons tB_95_0
  (lst_cons tB_95_1
  (lst_cons tB_95_2
  (lst_cons tB_96_0
  (lst_cons tB_96_1
  (lst_cons tB_96_2 lst_nil)))))))))))))))))))))))))))))))))))))))))))))))))))))))))))))))))))))))))))))))))))))))))))))))))))))))))))))))))))))))))))))))))))))))))))))))))))))))))))))))))))))))))))))))))))))))))))))))))))))))))))))))))))))))))))))))))))))))))))))))))))))))))))))))))))))))))))))))))))))))))))
theorem tB {k j : Nat} (hk : k < 97) (hj : j < (evD (12 + (k : Int))).length) (d : Sl) (r : Fo) : fB r (st8 d (12 + (k : Int)) ((evD (12 + (k : Int))).getD j .non)) = r (st11 d (12 + (k : Int)) ((evD (12 + (k : Int))).getD j .non)) := by
  have h := List.all_eq_true.mp (List.all_eq_true.mp evPL k (List.mem_range.mpr hk)) j (List.mem_range.mpr hj)
  have h2 : (k, j) ∈ PL := by simpa using h
  exact tB0 (k, j) h2 d r

def S7 (i : Int) : Int := Sn.getD i.toNat 0
abbrev SpD (l s o : Int) : D := .ins 0 [.int l, .int s, .int o]
theorem s7c {i : Int} (h0 : 0 ≤ i) (h7 : i < 7) : i = 0 ∨ i = 1 ∨ i = 2 ∨ i = 3 ∨ i = 4 ∨ i = 5 ∨ i = 6 := by omega
theorem ix7 {i : Int} (h0 : 0 ≤ i) (h7 : i < 7) : ixD (.tup [.int 0, .int 2, .int 4, .int 5, .int 7, .int 9, .int 11]) (.int i) = some (.int (S7 i)) := by
  rcases s7c h0 h7 with e | e | e | e | e | e | e <;> subst e <;> rfl
theorem ix7l {i : Int} (h0 : 0 ≤ i) (h7 : i < 7) : ixD stp (.int i) = some (.int (S7 i)) := by
  rcases s7c h0 h7 with e | e | e | e | e | e | e <;> subst e <;> rfl
theorem S7b {i : Int} (h0 : 0 ≤ i) (h7 : i < 7) : 0 ≤ S7 i ∧ S7 i ≤ 11 := by
  rcases s7c h0 h7 with e | e | e | e | e | e | e <;> subst e <;> decide
theorem e_plain {l o : Int} (h0 : 0 ≤ l) (h7 : l < 7) : F_plain_steps [.int l, .int o] = some (.ret (.int (12 * o + S7 l))) := by
  show outRes (b_plain_steps [.val (.int l), .val (.int o)]) = _
  unfold b_plain_steps
  rw [thenS_ok (bin2_of (d := .int (12 * o + S7 l)) (bin2_of rfl (var_of rfl) (mul_ok (by decide))) (bin2_of rfl (var_of rfl) (ix7 h0 h7)) rfl)]
  rfl
theorem e_steps {l s o : Int} (h0 : 0 ≤ l) (h7 : l < 7) : F_steps_of [SpD l s o] = some (.ret (.int (12 * o + S7 l + s))) := by
  show outRes (b_steps_of [.val (SpD l s o)]) = _
  unfold b_steps_of
  rw [thenS_ok (bin2_of (d := .int (12 * o + S7 l + s)) (call_of (cons_of (d := .int l) (fld_of (var_of rfl) rfl) (one_of (d := .int o) (fld_of (var_of rfl) rfl))) (e_plain h0 h7)) (fld_of (d := .int s) (var_of rfl) rfl) rfl)]
  rfl
theorem e_place (l s o : Int) : F_Spelled_place [SpD l s o] = some (.ret (.int (7 * o + l))) := by
  show outRes (b_Spelled_place [.val (SpD l s o)]) = _
  unfold b_Spelled_place
  rw [thenS_ok (bin2_of (d := .int (7 * o + l)) (bin2_of rfl (fld_of (d := .int o) (var_of rfl) rfl) (mul_ok (by decide))) (fld_of (d := .int l) (var_of rfl) rfl) rfl)]
  rfl
theorem e_shown (l s o : Int) : F_Spelled_shown [SpD l s o] = some (.ret (.tup [.int l, .int s, .int o])) := rfl
theorem chkn {n : Int} : F_check_note [.int n] = if 0 ≤ n ∧ n ≤ 120 then some (.ret (.int n)) else some (.ex 1) := by
  show outRes (b_check_note [.val (.int n)]) = _
  unfold b_check_note
  by_cases h0 : 0 ≤ n
  · have e : tst (chainM leD leD (pureM (.int 0)) (varM 0) (pureM (.int 120))) [.val (.int n)] = some (.ok (decide (n ≤ 120)) [.val (.int n)]) := chain_ok rfl (var_of rfl) (by show some (D.bl (decide (0 ≤ n))) = _; rw [decide_eq_true h0]) rfl rfl
    have e2 : (FL.bindM (tst (chainM leD leD (pureM (.int 0)) (varM 0) (pureM (.int 120)))) fun k => pureM (!k)) [.val (.int n)] = some (.ok (!decide (n ≤ 120)) [.val (.int n)]) := by rw [bindM_ok e]; rfl
    by_cases h1 : n ≤ 120
    · rw [if_pos ⟨h0, h1⟩]
      rw [decide_eq_true h1] at e2
      rw [rt_seq (if_no e2) rfl]; rfl
    · rw [if_neg (fun h => h1 h.2)]
      rw [decide_eq_false h1] at e2
      unfold seqS; rw [if_yes e2]; rfl
  · have e : (FL.bindM (tst (chainM leD leD (pureM (.int 0)) (varM 0) (pureM (.int 120)))) fun k => pureM (!k)) [.val (.int n)] = some (.ok true [.val (.int n)]) := by
      have : tst (chainM leD leD (pureM (.int 0)) (varM 0) (pureM (.int 120))) [.val (.int n)] = some (.ok false [.val (.int n)]) := chain_no rfl (var_of rfl) (by show some (D.bl (decide (0 ≤ n))) = _; rw [decide_eq_false h0])
      rw [bindM_ok this]; rfl
    rw [if_neg (fun h => h0 h.1)]
    unfold seqS; rw [if_yes e]; rfl
theorem e_note {l s o : Int} (h0 : 0 ≤ l) (h7 : l < 7) (hn : 0 ≤ 12 * o + S7 l + s ∧ 12 * o + S7 l + s ≤ 120) : F_Spelled_note [SpD l s o] = some (.ret (.int (12 * o + S7 l + s))) := by
  show outRes (b_Spelled_note [.val (SpD l s o)]) = _
  unfold b_Spelled_note
  rw [thenS_ok (call_of (one_of (call_of (one_of (var_of rfl)) (e_steps h0 h7))) (by rw [chkn, if_pos hn]))]
  rfl
/-- the making -/
theorem e_make {l s o : Int} (h0 : 0 ≤ l) (h7 : l < 7) : F_Spelled [.int l, .int s, .int o] = if -2 ≤ s ∧ s ≤ 2 then some (.ret (SpD l s o)) else some (.ex 1) := by
  show outI (g_Spelled [] [.un, .val (.int l), .val (.int s), .val (.int o)]) = _
  generalize hδ : ([.un, .val (.int l), .val (.int s), .val (.int o)] : De) = δ
  have v1 : varM 1 δ = some (.ok (.int l) δ) := by subst hδ; rfl
  have v2 : varM 2 δ = some (.ok (.int s) δ) := by subst hδ; rfl
  have a1 : tst (chainM leD ltD (pureM (.int 0)) (varM 1) (pureM (.int 7))) δ = some (.ok true δ) := chain_ok rfl v1 (by show some (D.bl (decide (0 ≤ l))) = _; rw [decide_eq_true h0]) rfl (by show some (D.bl (decide (l < 7))) = _; rw [decide_eq_true h7])
  have b1 : (FL.bindM (tst (chainM leD ltD (pureM (.int 0)) (varM 1) (pureM (.int 7)))) fun k => pureM (!k)) δ = some (.ok false δ) := by rw [bindM_ok a1]; rfl
  have a2 : tst (chainM leD leD (un1 negD (pureM (.int 2))) (varM 2) (pureM (.int 2))) δ = some (.ok (decide (-2 ≤ s ∧ s ≤ 2)) δ) := by
    by_cases h : -2 ≤ s
    · rw [chain_ok (x := .int (-2)) (q := decide (s ≤ 2)) rfl v2 (by show some (D.bl (decide (-2 ≤ s))) = _; rw [decide_eq_true h]) rfl rfl]
      simp [h]
    · rw [chain_no (x := .int (-2)) rfl v2 (by show some (D.bl (decide (-2 ≤ s))) = _; rw [decide_eq_false h])]
      simp [h]
  have b2 : (FL.bindM (tst (chainM leD leD (un1 negD (pureM (.int 2))) (varM 2) (pureM (.int 2)))) fun k => pureM (!k)) δ = some (.ok (!decide (-2 ≤ s ∧ s ≤ 2)) δ) := by rw [bindM_ok a2]; rfl
  have b3 : orT (FL.bindM (tst (chainM leD ltD (pureM (.int 0)) (varM 1) (pureM (.int 7)))) fun k => pureM (!k)) (FL.bindM (tst (chainM leD leD (un1 negD (pureM (.int 2))) (varM 2) (pureM (.int 2)))) fun k => pureM (!k)) δ = some (.ok (!decide (-2 ≤ s ∧ s ≤ 2)) δ) := or_2 b1 b2
  unfold g_Spelled raiI
  rw [thenS_ok b3]
  subst hδ
  by_cases h : -2 ≤ s ∧ s ≤ 2
  · rw [if_pos h, decide_eq_true h]; rfl
  · rw [if_neg h, decide_eq_false h]; rfl
theorem eq3 (a b c a' b' c' : Int) : eqB (.tup [.int a, .int b, .int c]) (.tup [.int a', .int b', .int c']) = some (decide (([a, b, c] : List Int) = [a', b', c'])) := eqB_tups [a, b, c] [a', b', c']
theorem eq2 (a b a' b' : Int) : eqB (.tup [.int a, .int b]) (.tup [.int a', .int b']) = some (decide (([a, b] : List Int) = [a', b'])) := eqB_tups [a, b] [a', b']
theorem e_moved {l s o a h p s' : Int} (h0 : 0 ≤ l) (h7 : l < 7) (hp : 7 * o + l + a = p) (hs' : 12 * o + S7 l + s + h - (12 * (p / 7) + S7 (p % 7)) = s') : F_moved [SpD l s o, .int a, .int h] =
    if -2 ≤ s' ∧ s' ≤ 2 then some (.ret (SpD (p % 7) s' (p / 7))) else some (.ex 1) := by
  have m0 : 0 ≤ p % 7 := Int.emod_nonneg _ (by decide)
  have m7 : p % 7 < 7 := Int.emod_lt_of_pos _ (by decide)
  show outRes (b_moved [.val (SpD l s o), .val (.int a), .val (.int h), .un, .un, .un]) = _
  unfold b_moved
  rw [seqS_nx (δ' := [.val (SpD l s o), .val (.int a), .val (.int h), .val (.int p), .un, .un]) (by rw [thenS_ok (bin2_of (d := .int p) (meth0_of (var_of rfl) (e_place l s o)) (var_of rfl) (by rw [← hp]; rfl))]; rfl)]
  rw [seqS_nx (δ' := [.val (SpD l s o), .val (.int a), .val (.int h), .val (.int p), .val (.int (p % 7)), .un]) (by rw [thenS_ok (bin2_of (d := .int (p % 7)) (var_of rfl) rfl rfl)]; rfl)]
  rw [seqS_nx (δ' := [.val (SpD l s o), .val (.int a), .val (.int h), .val (.int p), .val (.int (p % 7)), .val (.int (p / 7))]) (by rw [thenS_ok (bin2_of (d := .int (p / 7)) (var_of rfl) rfl (by show some (D.int (p.fdiv 7)) = _; rw [Int.fdiv_eq_ediv_of_nonneg _ (by decide)]))]; rfl)]
  have e1 : bin2 subD (bin2 addD (callM F_steps_of (consM (varM 0) (pureM []))) (varM 2)) (callM F_plain_steps (consM (varM 4) (consM (varM 5) (pureM [])))) [.val (SpD l s o), .val (.int a), .val (.int h), .val (.int p), .val (.int (p % 7)), .val (.int (p / 7))] = some (.ok (.int s') [.val (SpD l s o), .val (.int a), .val (.int h), .val (.int p), .val (.int (p % 7)), .val (.int (p / 7))]) :=
    bin2_of (bin2_of (call_of (one_of (var_of rfl)) (e_steps h0 h7)) (var_of rfl) rfl) (call_of (cons_of (var_of rfl) (one_of (var_of rfl))) (e_plain m0 m7)) (by rw [← hs']; rfl)
  have e2 := cons_of (m := varM 4) (n := consM (bin2 subD (bin2 addD (callM F_steps_of (consM (varM 0) (pureM []))) (varM 2)) (callM F_plain_steps (consM (varM 4) (consM (varM 5) (pureM []))))) (consM (varM 5) (pureM []))) (var_of (i := 4) (d := .int (p % 7)) (δ := [.val (SpD l s o), .val (.int a), .val (.int h), .val (.int p), .val (.int (p % 7)), .val (.int (p / 7))]) rfl) (cons_of e1 (one_of (var_of (d := .int (p / 7)) rfl)))
  have e3 : F_Spelled ([.int (p % 7), .int s', .int (p / 7)] ++ []) = _ := e_make m0 m7
  by_cases hs : -2 ≤ s' ∧ s' ≤ 2
  · rw [if_pos hs] at e3 ⊢
    rw [thenS_ok (call_of (f := fun l => F_Spelled (l ++ [])) e2 e3)]; rfl
  · rw [if_neg hs] at e3 ⊢
    rw [thenS_ex (call_ex (f := fun l => F_Spelled (l ++ [])) e2 e3)]; rfl
theorem e_apart {l s o l' s' o' : Int} (h0 : 0 ≤ l) (h7 : l < 7) (h0' : 0 ≤ l') (h7' : l' < 7) : F_apart [SpD l s o, SpD l' s' o'] = some (.ret (.tup [.int (7 * o' + l' - (7 * o + l)), .int (12 * o' + S7 l' + s' - (12 * o + S7 l + s))])) := by
  show outRes (b_apart [.val (SpD l s o), .val (SpD l' s' o')]) = _
  unfold b_apart
  rw [thenS_ok (tup_of (cons_of (d := .int (7 * o' + l' - (7 * o + l))) (bin2_of (meth0_of (var_of rfl) (e_place l' s' o')) (meth0_of (var_of rfl) (e_place l s o)) rfl)
    (one_of (d := .int (12 * o' + S7 l' + s' - (12 * o + S7 l + s))) (bin2_of (call_of (one_of (var_of rfl)) (e_steps h0' h7')) (call_of (one_of (var_of rfl)) (e_steps h0 h7)) rfl))) (by simp))]
  rfl
theorem e_turned {n ab : Int} (h : 0 ≤ ab - n ∧ ab - n ≤ 120) : F_turned [.int n, .int ab] = some (.ret (.int (ab - n))) := by
  show outRes (b_turned [.val (.int n), .val (.int ab)]) = _
  unfold b_turned
  rw [thenS_ok (call_of (one_of (bin2_of (d := .int (ab - n)) (var_of rfl) (var_of rfl) rfl)) (by rw [chkn, if_pos h]))]
  rfl

theorem e_dice (n : Int) : ∃ x y z : Int, F__law_dice [.int n] = some (.ret (.lst [.int x, .int y, .int z])) := by
  by_cases h1 : -10 < n <;> by_cases h2 : n < 10
  · exact ⟨absI n, 0, 2, by simp [F__law_dice, b__law_dice, defF, startD, seqS, thenS, FL.bindM, pureM, varM, liftO, FL.consM, callM, resM, callB, bin2, un1, tst, toB, FL.andM, FL.orM, FL.notM, andT, orT, iteM, chainM, tupM, lstM, intM, subD, mulD, modD, fdivD, addD, ltD, leD, gtD, geD, eqD_int, neD_int, eqD_bl, neD_bl, negD, int2, int2C, absD, lenD, FL.intD, outRes, nxS, bName, bTup, bCons, bNil, seqOf, h1, h2]⟩
  all_goals refine ⟨n, 1 + n % 1009, if 10 ^ 18 ≤ n then 1 else 0, ?_⟩
  all_goals by_cases h3 : (10 : Int) ^ 18 ≤ n <;> simp [F__law_dice, b__law_dice, defF, startD, seqS, thenS, FL.bindM, pureM, varM, liftO, FL.consM, callM, resM, callB, bin2, un1, tst, toB, FL.andM, FL.orM, FL.notM, andT, orT, iteM, chainM, tupM, lstM, intM, subD, mulD, modD, fdivD, addD, ltD, leD, gtD, geD, eqD_int, neD_int, eqD_bl, neD_bl, negD, int2, int2C, absD, lenD, FL.intD, outRes, nxS, bName, bTup, bCons, bNil, seqOf, h1, h2, powD, CPow] <;> split <;> simp_all
theorem finR (ns : List Int) : ∃ x y z, b_rounds [.un, .val (.int 1), .val (.lst ((ns.take 1).map D.int)), .un] = some (.rt (.lst [.lst [.int x, .int y, .int z]])) := by
  have key : ∀ n : Int, ∃ x y z, thenS (lcM [3] (bName 3) (pureM true) (callM F__law_dice (consM (varM 3) (pureM []))) (seqM (varM 2))) (fun d _ => some (.rt d)) [.un, .val (.int 1), .val (.lst [.int n]), .un] = some (.rt (.lst [.lst [.int x, .int y, .int z]])) := fun n => by
    obtain ⟨x, y, z, e⟩ := e_dice n
    refine ⟨x, y, z, ?_⟩
    rw [thenS_ok (lcM_map (g := fun _ => .lst [.int x, .int y, .int z]) (ds := [.int n]) (δ1 := [.un, .val (.int 1), .val (.lst [.int n]), .un]) rfl (by simp) rfl fun d hd => ?_)]
    · rfl
    · simp only [List.mem_singleton] at hd
      subst hd
      obtain ⟨δ1, e1, rfl, e2, e3⟩ := bind1 (v := 3) (d := .int n) (δ := [.un, .val (.int 1), .val (.lst [.int n]), .un])
      exact ⟨_, e1, e2, e3, call_of rfl e⟩
  cases ns with
  | nil =>
    obtain ⟨x, y, z, e⟩ := key 0
    exact ⟨x, y, z, e⟩
  | cons n r =>
    obtain ⟨x, y, z, e⟩ := key n
    refine ⟨x, y, z, ?_⟩
    show b_rounds [.un, .val (.int 1), .val (.lst [.int n]), .un] = _
    unfold b_rounds
    rw [rt_seq (if_no (eq_of (x := .lst [.int n]) (y := .lst []) (var_of rfl) (lst_of rfl (by decide)) (eqB_ints [n] []))) e]
/-- what is asked at the end -/
def EndK (δ : De) : Prop := δ.length = 19 ∧ ownAt δ 17 = none ∧ ownAt δ 3 = none
def st16 (d : Sl) (n l s o a h p s' : Int) (dd ee tx g : D) : De := [.un, d, .un, .val (.int n), .val stp, .val dd, .val (.int 10), .val ee, .val (SpD l s o), .val tx, .val g, .val (.int p), .val (.int s'), .un, .val (.int 6), .val (.int a), .val (.int h), .un, .un]
theorem tC {d : Sl} {n l s o a h p s' : Int} {dd ee tx g : D} (h0 : 0 ≤ l) (h7 : l < 7) (hn : n = 12 * o + S7 l + s) (h12 : 12 ≤ n) (h108 : n ≤ 108) (a0 : -7 ≤ h) (a1 : h ≤ 7) (hp : 7 * o + l + a = p) (hs' : n + h - 12 * (p / 7) - S7 (p % 7) = s')
    (hg : g = if -2 ≤ s' ∧ s' ≤ 2 then SpD (p % 7) s' (p / 7) else .str "note") : c_16 (st16 d n l s o a h p s' dd ee tx g) = some (.nx (st16 d n l s o a h p s' dd ee tx g)) := by
  have m0 : 0 ≤ p % 7 := Int.emod_nonneg _ (by decide)
  have m7 : p % 7 < 7 := Int.emod_lt_of_pos _ (by decide)
  have dp : 7 * (p / 7) + p % 7 = p := Int.mul_ediv_add_emod p 7
  have v12 : varM 12 (st16 d n l s o a h p s' dd ee tx g) = some (.ok (.int s') (st16 d n l s o a h p s' dd ee tx g)) := rfl
  have v10 : varM 10 (st16 d n l s o a h p s' dd ee tx g) = some (.ok g (st16 d n l s o a h p s' dd ee tx g)) := rfl
  have v11 : varM 11 (st16 d n l s o a h p s' dd ee tx g) = some (.ok (.int p) (st16 d n l s o a h p s' dd ee tx g)) := rfl
  have v8 : varM 8 (st16 d n l s o a h p s' dd ee tx g) = some (.ok (SpD l s o) (st16 d n l s o a h p s' dd ee tx g)) := rfl
  have v3 : varM 3 (st16 d n l s o a h p s' dd ee tx g) = some (.ok (.int n) (st16 d n l s o a h p s' dd ee tx g)) := rfl
  have v15 : varM 15 (st16 d n l s o a h p s' dd ee tx g) = some (.ok (.int a) (st16 d n l s o a h p s' dd ee tx g)) := rfl
  have v16 : varM 16 (st16 d n l s o a h p s' dd ee tx g) = some (.ok (.int h) (st16 d n l s o a h p s' dd ee tx g)) := rfl
  generalize st16 d n l s o a h p s' dd ee tx g = δ at *
  have e1 : tst (chainM leD leD (bin2 subD (pureM (.int 0)) (pureM (.int 2))) (varM 12) (pureM (.int 2))) δ = some (.ok (decide (-2 ≤ s' ∧ s' ≤ 2)) δ) := by
    by_cases h : -2 ≤ s'
    · rw [chain_ok (x := .int (-2)) (q := decide (s' ≤ 2)) rfl v12 (by show some (D.bl (decide (-2 ≤ s'))) = _; rw [decide_eq_true h]) rfl rfl]
      simp [h]
    · rw [chain_no (x := .int (-2)) rfl v12 (by show some (D.bl (decide (-2 ≤ s'))) = _; rw [decide_eq_false h])]
      simp [h]
  unfold c_16
  by_cases hs : -2 ≤ s' ∧ s' ≤ 2
  · rw [if_pos hs] at hg
    subst hg
    rw [decide_eq_true hs] at e1
    rw [if_yes e1]
    have fd : bin2 fdivD (varM 11) (pureM (.int 7)) δ = some (.ok (.int (p / 7)) δ) := bin2_of v11 rfl (by show some (D.int (p.fdiv 7)) = _; rw [Int.fdiv_eq_ediv_of_nonneg _ (by decide)])
    have md : bin2 modD (varM 11) (pureM (.int 7)) δ = some (.ok (.int (p % 7)) δ) := bin2_of v11 rfl rfl
    have n1 := ne_no (m := methM 0 F_Spelled_shown (varM 10) (pureM [])) (n := tupM (consM (bin2 modD (varM 11) (pureM (.int 7))) (consM (varM 12) (consM (bin2 fdivD (varM 11) (pureM (.int 7))) (pureM []))))) (meth0_of v10 (e_shown _ _ _)) (tup_of (cons_of md (cons_of v12 (one_of fd))) (by simp)) (by rw [eq3]; simp)
    have eS : n + h = 12 * (p / 7) + S7 (p % 7) + s' := by omega
    have n2 := ne_no (m := callM F_apart (consM (varM 8) (consM (varM 10) (pureM [])))) (n := tupM (consM (varM 15) (consM (varM 16) (pureM [])))) (call_of (cons_of v8 (one_of v10)) (e_apart h0 h7 m0 m7)) (tup_of (cons_of v15 (one_of v16)) (by simp)) (by
      rw [eq2, show 7 * (p / 7) + p % 7 - (7 * o + l) = a by omega, show 12 * (p / 7) + S7 (p % 7) + s' - (12 * o + S7 l + s) = h by omega]; simp)
    have n3 := ne_no (m := methM 0 F_Spelled_note (varM 10) (pureM [])) (n := bin2 addD (varM 3) (varM 16)) (meth0_of v10 (e_note m0 m7 (by omega))) (bin2_of v3 v16 (d := .int (n + h)) rfl) (by rw [eqB_int, eS]; simp)
    exact if_no (or_no n1 (or_no n2 n3))
  · rw [if_neg hs] at hg
    subst hg
    rw [decide_eq_false hs] at e1
    rw [if_not e1]
    exact if_no (ne_no v10 rfl (by rw [eqB_str (by decide +kernel) (by decide +kernel)]; exact congrArg some (by decide +kernel)))
theorem own1 {x y z : Int} {δ : De} (h : δ[1]? = some (.own [.int x, .int y, .int z])) : ownAt δ 1 = some [.int x, .int y, .int z] := own_at h
theorem bodyNy (x y z : Int) : NyP EndK b_body (lawD 19 1 x y z) := by
  obtain ⟨r, x1, y1, z1, r0, r1, hr⟩ := roll1 (i := 1) (m := 97) (x := x) (y := y) (z := z) (δ := lawD 19 1 x y z) ⟨by decide, by decide⟩ rfl
  obtain ⟨k, rfl⟩ : ∃ k : Nat, r = k := ⟨r.toNat, by omega⟩
  have hk : k < 97 := by omega
  unfold b_body
  refine ny_seq (δ' := st1 (.own [.int x1, .int y1, .int z1]) (12 + (k : Int))) (by unfold c_1; rw [thenS_ok (bin2_of rfl hr rfl)]; rfl) ?_
  refine ny_rw (tA hk (.own [.int x1, .int y1, .int z1]) _) ?_
  obtain ⟨g1, g2, g3⟩ := evGood k (List.mem_range.mpr hk)
  -- one of the spelled notes
  generalize hδ7 : st7 (.own [.int x1, .int y1, .int z1]) (12 + (k : Int)) = δ7
  have o7 : ownAt δ7 1 = some [.int x1, .int y1, .int z1] := by subst hδ7; rfl
  have v7 : varM 7 δ7 = some (.ok (.tup (evD (12 + (k : Int)))) δ7) := by subst hδ7; rfl
  have hlen : callB lenD (consM (varM 7) (pureM [])) δ7 = some (.ok (.int (evD (12 + (k : Int))).length) δ7) := cb_of (one_of v7) rfl
  obtain ⟨j, x2, y2, z2, j0, j1, hj⟩ := roll_of (i := 1) (m := (evD (12 + (k : Int))).length) ⟨by omega, by omega⟩ hlen o7
  obtain ⟨j, rfl⟩ : ∃ i : Nat, j = i := ⟨j.toNat, by omega⟩
  have hjl : j < (evD (12 + (k : Int))).length := by omega
  have e8 : c_8 δ7 = some (.nx (st8 (.own [.int x2, .int y2, .int z2]) (12 + (k : Int)) ((evD (12 + (k : Int))).getD j .non))) := by
    unfold c_8
    rw [thenS_ok (bin2_of v7 hj (show L2.atI (evD (12 + (k : Int))) (j : Int) = some ((evD (12 + (k : Int))).getD j .non) from L2.atI_nat (by rw [List.getD_eq_getElem?_getD, List.getElem?_eq_getElem hjl]; rfl)))]
    subst hδ7
    rfl
  refine ny_seq e8 ?_
  refine ny_rw (tB hk hjl (.own [.int x2, .int y2, .int z2]) _) ?_
  -- the note spelled
  have hone : goodE (12 + (k : Int)) ((evD (12 + (k : Int))).getD j .non) = true := by
    refine List.all_eq_true.mp g3 _ ?_
    rw [List.getD_eq_getElem?_getD, List.getElem?_eq_getElem hjl]
    exact List.getElem_mem hjl
  generalize (evD (12 + (k : Int))).getD j .non = one at hone ⊢
  obtain ⟨l, s, o, rfl, h0, h7, hs0, hs2, ho0, ho1, hn⟩ : ∃ l s o : Int, one = SpD l s o ∧ 0 ≤ l ∧ l < 7 ∧ -2 ≤ s ∧ s ≤ 2 ∧ -1 ≤ o ∧ o ≤ 10 ∧ 12 + (k : Int) = 12 * o + S7 l + s := by
    unfold goodE at hone
    split at hone
    · exact ⟨_, _, _, rfl, of_decide_eq_true hone⟩
    · cases hone
  have h12 : 12 ≤ 12 + (k : Int) := by omega
  have h108 : 12 + (k : Int) ≤ 108 := by omega
  generalize 12 + (k : Int) = n at *
  unfold st11
  generalize txD (SpD l s o) = tx
  generalize D.lst (dueD n) = dd
  generalize D.tup (evD n) = ee
  -- letters and half steps
  generalize hδ : ([.un, .own [.int x2, .int y2, .int z2], .un, .val (.int n), .val stp, .val dd, .val (.int 10), .val ee, .val (SpD l s o), .val tx, .un, .un, .val (.int (n - 12 * 10 - 11)), .un, .val (.int 6), .un, .un, .un, .un] : De) = δ
  obtain ⟨r1, x3, y3, z3, q0, q1, hq⟩ := roll1 (i := 1) (m := 9) (x := x2) (y := y2) (z := z2) (δ := δ) ⟨by decide, by decide⟩ (by subst hδ; rfl)
  obtain ⟨r2, x4, y4, z4, t0, t1, ht⟩ := roll1 (i := 1) (m := 15) (x := x3) (y := y3) (z := z3) (δ := δ.set 1 (.own [.int x3, .int y3, .int z3])) ⟨by decide, by decide⟩ (by subst hδ; rfl)
  obtain ⟨a, ha⟩ : ∃ a : Int, r1 - 4 = a := ⟨_, rfl⟩
  obtain ⟨h, hh⟩ : ∃ h : Int, r2 - 7 = h := ⟨_, rfl⟩
  refine ny_seq (δ' := [.un, .own [.int x4, .int y4, .int z4], .un, .val (.int n), .val stp, .val dd, .val (.int 10), .val ee, .val (SpD l s o), .val tx, .un, .un, .val (.int (n - 12 * 10 - 11)), .un, .val (.int 6), .val (.int a), .val (.int h), .un, .un]) (by
    unfold c_12
    rw [thenS_ok (tup_of (cons_of (d := .int a) (bin2_of hq rfl (by rw [← ha]; rfl)) (one_of (d := .int h) (bin2_of ht rfl (by rw [← hh]; rfl)))) (by simp))]
    subst hδ
    rfl) ?_
  obtain ⟨p, hp⟩ : ∃ p : Int, 7 * o + l + a = p := ⟨_, rfl⟩
  obtain ⟨s', hs'⟩ : ∃ s' : Int, n + h - 12 * (p / 7) - S7 (p % 7) = s' := ⟨_, rfl⟩
  obtain ⟨g, hg⟩ : ∃ g : D, g = if -2 ≤ s' ∧ s' ≤ 2 then SpD (p % 7) s' (p / 7) else .str "note" := ⟨_, rfl⟩
  have hmv : F_moved [SpD l s o, .int a, .int h] = if -2 ≤ s' ∧ s' ≤ 2 then some (.ret (SpD (p % 7) s' (p / 7))) else some (.ex 1) := e_moved h0 h7 hp (by omega)
  refine ny_seq (δ' := [.un, .own [.int x4, .int y4, .int z4], .un, .val (.int n), .val stp, .val dd, .val (.int 10), .val ee, .val (SpD l s o), .val tx, .val g, .un, .val (.int (n - 12 * 10 - 11)), .un, .val (.int 6), .val (.int a), .val (.int h), .un, .un]) (by
    unfold c_13
    have e : toldM NL (callM F_moved (consM (varM 8) (consM (varM 15) (consM (varM 16) (pureM []))))) [.un, .own [.int x4, .int y4, .int z4], .un, .val (.int n), .val stp, .val dd, .val (.int 10), .val ee, .val (SpD l s o), .val tx, .un, .un, .val (.int (n - 12 * 10 - 11)), .un, .val (.int 6), .val (.int a), .val (.int h), .un, .un] = some (.ok g [.un, .own [.int x4, .int y4, .int z4], .un, .val (.int n), .val stp, .val dd, .val (.int 10), .val ee, .val (SpD l s o), .val tx, .un, .un, .val (.int (n - 12 * 10 - 11)), .un, .val (.int 6), .val (.int a), .val (.int h), .un, .un]) := by
      by_cases hc : -2 ≤ s' ∧ s' ≤ 2
      · rw [if_pos hc] at hmv hg
        subst hg
        exact told_ok (call_of (cons_of (var_of rfl) (cons_of (var_of rfl) (one_of (var_of rfl)))) hmv)
      · rw [if_neg hc] at hmv hg
        subst hg
        exact told_ex (call_ex (cons_of (var_of rfl) (cons_of (var_of rfl) (one_of (var_of rfl)))) hmv) rfl
    rw [thenS_ok e]
    rfl) ?_
  refine ny_seq (δ' := [.un, .own [.int x4, .int y4, .int z4], .un, .val (.int n), .val stp, .val dd, .val (.int 10), .val ee, .val (SpD l s o), .val tx, .val g, .val (.int p), .val (.int (n - 12 * 10 - 11)), .un, .val (.int 6), .val (.int a), .val (.int h), .un, .un]) (by
    unfold c_14
    rw [thenS_ok (bin2_of (d := .int p) (meth0_of (var_of rfl) (e_place l s o)) (var_of rfl) (by rw [← hp]; rfl))]
    rfl) ?_
  have m0 : 0 ≤ p % 7 := Int.emod_nonneg _ (by decide)
  have m7 : p % 7 < 7 := Int.emod_lt_of_pos _ (by decide)
  refine ny_seq (δ' := st16 (.own [.int x4, .int y4, .int z4]) n l s o a h p s' dd ee tx g) (by
    unfold c_15
    rw [thenS_ok (bin2_of (d := .int s') (bin2_of (bin2_of (d := .int (n + h)) (var_of rfl) (var_of rfl) rfl) (bin2_of (d := .int (12 * (p / 7))) rfl (bin2_of (d := .int (p / 7)) (var_of rfl) rfl (by show some (D.int (p.fdiv 7)) = _; rw [Int.fdiv_eq_ediv_of_nonneg _ (by decide)])) (mul_ok (by decide))) rfl) (bin2_of (d := .int (S7 (p % 7))) (var_of rfl) (bin2_of (d := .int (p % 7)) (var_of rfl) rfl rfl) (ix7l m0 m7)) (by rw [← hs']; rfl))]
    rfl) ?_
  refine ny_seq (tC h0 h7 hn h12 h108 (by omega) (by omega) hp hs' hg) ?_
  -- turned over
  obtain ⟨r3, x5, y5, z5, w0, w1, hw⟩ := roll1 (i := 1) (m := 20) (x := x4) (y := y4) (z := z4) (δ := st16 (.own [.int x4, .int y4, .int z4]) n l s o a h p s' dd ee tx g) ⟨by decide, by decide⟩ rfl
  obtain ⟨ab, hab⟩ : ∃ ab : Int, n + 20 + r3 = ab := ⟨_, rfl⟩
  refine ny_seq (δ' := [.un, .own [.int x5, .int y5, .int z5], .un, .val (.int n), .val stp, .val dd, .val (.int 10), .val ee, .val (SpD l s o), .val tx, .val g, .val (.int p), .val (.int s'), .val (.int ab), .val (.int 6), .val (.int a), .val (.int h), .un, .un]) (by
    unfold c_17
    rw [thenS_ok (bin2_of (d := .int ab) (bin2_of (d := .int (n + 20)) (var_of rfl) rfl rfl) hw (by rw [← hab]; rfl))]
    rfl) ?_
  refine ny_end (δ' := [.un, .own [.int x5, .int y5, .int z5], .un, .val (.int n), .val stp, .val dd, .val (.int 10), .val ee, .val (SpD l s o), .val tx, .val g, .val (.int p), .val (.int s'), .val (.int ab), .val (.int 6), .val (.int a), .val (.int h), .un, .un]) ?_ ⟨rfl, rfl, rfl⟩
  unfold c_18
  have v3 : varM 3 [.un, .own [.int x5, .int y5, .int z5], .un, .val (.int n), .val stp, .val dd, .val (.int 10), .val ee, .val (SpD l s o), .val tx, .val g, .val (.int p), .val (.int s'), .val (.int ab), .val (.int 6), .val (.int a), .val (.int h), .un, .un] = some (.ok (.int n) _) := rfl
  have v13 : varM 13 [.un, .own [.int x5, .int y5, .int z5], .un, .val (.int n), .val stp, .val dd, .val (.int 10), .val ee, .val (SpD l s o), .val tx, .val g, .val (.int p), .val (.int s'), .val (.int ab), .val (.int 6), .val (.int a), .val (.int h), .un, .un] = some (.ok (.int ab) _) := rfl
  generalize ([.un, .own [.int x5, .int y5, .int z5], .un, .val (.int n), .val stp, .val dd, .val (.int 10), .val ee, .val (SpD l s o), .val tx, .val g, .val (.int p), .val (.int s'), .val (.int ab), .val (.int 6), .val (.int a), .val (.int h), .un, .un] : De) = δ at v3 v13 ⊢
  have f1 : callM F_turned (consM (varM 3) (consM (varM 13) (pureM []))) δ = some (.ok (.int (ab - n)) δ) := call_of (cons_of v3 (one_of v13)) (e_turned (by omega))
  have n1 := ne_no (m := callM F_turned (consM (callM F_turned (consM (varM 3) (consM (varM 13) (pureM [])))) (consM (varM 13) (pureM [])))) (n := varM 3) (call_of (cons_of f1 (one_of v13)) (e_turned (by omega))) v3 (by rw [eqB_int, show ab - (ab - n) = n by omega]; simp)
  have f2 : bin2 fdivD (varM 13) (pureM (.int 2)) δ = some (.ok (.int (ab / 2)) δ) := bin2_of v13 rfl (by show some (D.int (ab.fdiv 2)) = _; rw [Int.fdiv_eq_ediv_of_nonneg _ (by decide)])
  have n2 := ne_no (m := bin2 subD (callM F_turned (consM (varM 3) (consM (varM 13) (pureM [])))) (bin2 fdivD (varM 13) (pureM (.int 2)))) (n := bin2 subD (bin2 subD (varM 13) (bin2 fdivD (varM 13) (pureM (.int 2)))) (varM 3)) (bin2_of (d := .int (ab - n - ab / 2)) f1 f2 rfl) (bin2_of (d := .int (ab - ab / 2 - n)) (bin2_of (d := .int (ab - ab / 2)) v13 f2 rfl) v3 rfl) (by rw [eqB_int, show ab - n - ab / 2 = ab - ab / 2 - n by omega]; simp)
  exact if_no (or_no n1 n2)
/-! the end -/
abbrev Wr : List D := [.tup [.fn lam_13, .str "note"], .tup [.fn lam_12, .str "note"], .tup [.fn lam_11, .str "note"], .tup [.fn lam_10, .str "note"], .tup [.fn lam_9, .str "note"], .tup [.fn lam_8, .str "note"], .tup [.fn lam_7, .str "note"], .tup [.fn lam_6, .str "note"], .tup [.fn lam_5, .str "text"], .tup [.fn lam_4, .str "text"], .tup [.fn lam_3, .str "text"], .tup [.fn lam_2, .str "text"], .tup [.fn lam_1, .str "text"], .tup [.fn lam_0, .str "text"]]
theorem eqnote : eqB (.str "note") (.str "note") = some true := by rw [eqB_str (by decide +kernel) (by decide +kernel)]; exact congrArg some (by decide +kernel)
theorem eqtext : eqB (.str "text") (.str "text") = some true := by rw [eqB_str (by decide +kernel) (by decide +kernel)]; exact congrArg some (by decide +kernel)
def WOk (d : D) : Prop := ∃ (L : Lam) (s : Str) (j : Nat) (m : M D), d = .tup [.fn L, .str s] ∧ L.ix = j ∧ LT[j]? = some (L, m) ∧ eqB (.str s) (.str s) = some true ∧ ∀ δ, toldM NL m δ = some (.ok (.str s) δ)
theorem wr_ok : ∀ d ∈ Wr, WOk d :=
  lst_cons ⟨_, _, 13, _, rfl, rfl, rfl, eqnote, fun δ => by kernel_rfl⟩ (lst_cons ⟨_, _, 12, _, rfl, rfl, rfl, eqnote, fun δ => by kernel_rfl⟩ (lst_cons ⟨_, _, 11, _, rfl, rfl, rfl, eqnote, fun δ => by kernel_rfl⟩ (lst_cons ⟨_, _, 10, _, rfl, rfl, rfl, eqnote, fun δ => by kernel_rfl⟩
  (lst_cons ⟨_, _, 9, _, rfl, rfl, rfl, eqnote, fun δ => by kernel_rfl⟩ (lst_cons ⟨_, _, 8, _, rfl, rfl, rfl, eqnote, fun δ => by kernel_rfl⟩ (lst_cons ⟨_, _, 7, _, rfl, rfl, rfl, eqnote, fun δ => by kernel_rfl⟩ (lst_cons ⟨_, _, 6, _, rfl, rfl, rfl, eqnote, fun δ => by kernel_rfl⟩
  (lst_cons ⟨_, _, 5, _, rfl, rfl, rfl, eqtext, fun δ => by kernel_rfl⟩ (lst_cons ⟨_, _, 4, _, rfl, rfl, rfl, eqtext, fun δ => by kernel_rfl⟩ (lst_cons ⟨_, _, 3, _, rfl, rfl, rfl, eqtext, fun δ => by kernel_rfl⟩ (lst_cons ⟨_, _, 2, _, rfl, rfl, rfl, eqtext, fun δ => by kernel_rfl⟩
  (lst_cons ⟨_, _, 1, _, rfl, rfl, rfl, eqtext, fun δ => by kernel_rfl⟩ (lst_cons ⟨_, _, 0, _, rfl, rfl, rfl, eqtext, fun δ => by kernel_rfl⟩ lst_nil)))))))))))))
theorem rest_ok (δ : De) (hl : δ.length = 19) (h17 : ownAt δ 17 = none) (h3 : ownAt δ 3 = none) : b_rest δ = some (.rt (.bl true)) := by
  unfold b_rest
  rw [seqS_nx (δ' := δ.set 2 (.val (.lst Wr))) rfl]
  have g2 : (δ.set 2 (.val (.lst Wr)))[2]? = some (.val (.lst Wr)) := List.getElem?_set_self (by omega)
  have o17 : ownAt (δ.set 2 (.val (.lst Wr))) 17 = none := by unfold ownAt at h17 ⊢; rw [List.getElem?_set_ne (by decide)]; exact h17
  have o3 : ownAt (δ.set 2 (.val (.lst Wr))) 3 = none := by unfold ownAt at h3 ⊢; rw [List.getElem?_set_ne (by decide)]; exact h3
  have l2 : (δ.set 2 (.val (.lst Wr))).length = 19 := by simp [hl]
  generalize δ.set 2 (.val (.lst Wr)) = δ2 at g2 o17 o3 l2 ⊢
  have f1 := wrong_nil (nl := NL) (lt := LT) (Wr := Wr) g2 o17 (by omega) (by decide) wr_ok
  have f2 : bin2 eqD (lcM [17] (bName 17) (tst (bin2 neD (toldK NL LT (bin2 ixD (varM 17) (pureM (.int 0)))) (bin2 ixD (varM 17) (pureM (.int 1))))) (varM 17) (seqM (varM 2))) (lstM (pureM [])) δ2 = some (.ok (.bl true) δ2) := bin2_of f1 (lst_of rfl (by decide)) (by unfold eqD; rw [eqB_nil]; rfl)
  have f3 : lcM [3] (bName 3) (pureM true) (callM F_check_note (consM (varM 3) (pureM []))) (seqM (lstM (consM (pureM (.int 0)) (consM (pureM (.int 120)) (pureM []))))) δ2 = some (.ok (.lst ([.int 0, .int 120].map id)) δ2) := by
    refine lcM_map (vs := [3]) (g := id) (ds := [.int 0, .int 120]) (δ1 := δ2) rfl (by decide) (by unfold noOwn; simp [o3]) fun d hd => ?_
    obtain ⟨δ3, b1, rfl, b2, b3⟩ := bind1 (v := 3) (d := d) (δ := δ2)
    have v3 : (δ2.set 3 (.val d))[3]? = some (.val d) := List.getElem?_set_self (by omega)
    refine ⟨_, b1, b2, b3, ?_⟩
    simp only [List.mem_cons, List.not_mem_nil, or_false] at hd
    rcases hd with e | e <;> subst e <;> exact call_of (one_of (var_of v3)) (by rw [chkn, if_pos (by decide)]; rfl)
  have f4 : bin2 eqD (lcM [3] (bName 3) (pureM true) (callM F_check_note (consM (varM 3) (pureM []))) (seqM (lstM (consM (pureM (.int 0)) (consM (pureM (.int 120)) (pureM [])))))) (lstM (consM (pureM (.int 0)) (consM (pureM (.int 120)) (pureM [])))) δ2 = some (.ok (.bl true) δ2) :=
    bin2_of f3 (lst_of rfl (by decide)) (by unfold eqD; rw [show eqB (.lst ([.int 0, .int 120].map id)) (.lst [.int 0, .int 120]) = _ from eqB_ints [0, 120] [0, 120]]; rfl)
  rw [thenS_ok (andM_of f2 f4)]
  rfl
theorem fin (x y z : Int) : ∃ δ', b_body (lawD 19 1 x y z) = some (.nx δ') ∧ b_rest δ' = some (.rt (.bl true)) := by
  obtain ⟨δ', h, h1, h2, h3⟩ := bodyNy x y z
  exact ⟨δ', h, rest_ok δ' h1 h2 h3⟩

end V
set_option maxHeartbeats 2000000
namespace V
open PySem PySem.Spec PyProof.Rows L2 FL

theorem sc__law_told : FnScope ["what"] ["what"] (defScope s__law_told) := ⟨rfl, rfl, rfl, by decide +kernel, rfl, by decide +kernel, by decide +kernel⟩
set_option maxHeartbeats 8000000 in
theorem all_mk {P : Program} {w : World} {K : PySem.W.Frag} {h : Heap} {mg : Str → Option Value} {fa C Pt : Addr} (X : K.In h) (G : h.Ns mainGlobals mg) (hfa : mg "law" = some (.ref fa))
    {K_Spelled : Addr}
    {f_check_note : Addr} {od_check_note an_check_note : Option Addr} {sl_check_note : Array (Option Value)} {oc_check_note kV_check_note dc_check_note pm_check_note cd_check_note ct_check_note : Value}
    {f_class_of : Addr} {od_class_of an_class_of : Option Addr} {sl_class_of : Array (Option Value)} {oc_class_of kV_class_of dc_class_of pm_class_of cd_class_of ct_class_of : Value}
    {f_octave_of : Addr} {od_octave_of an_octave_of : Option Addr} {sl_octave_of : Array (Option Value)} {oc_octave_of kV_octave_of dc_octave_of pm_octave_of cd_octave_of ct_octave_of : Value}
    {f_plain_steps : Addr} {od_plain_steps an_plain_steps : Option Addr} {sl_plain_steps : Array (Option Value)} {oc_plain_steps kV_plain_steps dc_plain_steps pm_plain_steps cd_plain_steps ct_plain_steps : Value}
    {f_Spelled : Addr} {od_Spelled an_Spelled : Option Addr} {sl_Spelled : Array (Option Value)} {oc_Spelled kV_Spelled dc_Spelled pm_Spelled cd_Spelled ct_Spelled : Value}
    {f_Spelled_place : Addr} {od_Spelled_place an_Spelled_place : Option Addr} {sl_Spelled_place : Array (Option Value)} {oc_Spelled_place kV_Spelled_place dc_Spelled_place pm_Spelled_place cd_Spelled_place ct_Spelled_place : Value}
    {f_Spelled_shown : Addr} {od_Spelled_shown an_Spelled_shown : Option Addr} {sl_Spelled_shown : Array (Option Value)} {oc_Spelled_shown kV_Spelled_shown dc_Spelled_shown pm_Spelled_shown cd_Spelled_shown ct_Spelled_shown : Value}
    {f_Spelled_told : Addr} {od_Spelled_told an_Spelled_told : Option Addr} {sl_Spelled_told : Array (Option Value)} {oc_Spelled_told kV_Spelled_told dc_Spelled_told pm_Spelled_told cd_Spelled_told ct_Spelled_told : Value}
    {f__law_dice : Addr} {od__law_dice an__law_dice : Option Addr} {sl__law_dice : Array (Option Value)} {oc__law_dice kV__law_dice dc__law_dice pm__law_dice cd__law_dice ct__law_dice : Value}
    {f_steps_of : Addr} {od_steps_of an_steps_of : Option Addr} {sl_steps_of : Array (Option Value)} {oc_steps_of kV_steps_of dc_steps_of pm_steps_of cd_steps_of ct_steps_of : Value}
    {f_turned : Addr} {od_turned an_turned : Option Addr} {sl_turned : Array (Option Value)} {oc_turned kV_turned dc_turned pm_turned cd_turned ct_turned : Value}
    {f_Spelled_note : Addr} {od_Spelled_note an_Spelled_note : Option Addr} {sl_Spelled_note : Array (Option Value)} {oc_Spelled_note kV_Spelled_note dc_Spelled_note pm_Spelled_note cd_Spelled_note ct_Spelled_note : Value}
    {f_read_note : Addr} {od_read_note an_read_note : Option Addr} {sl_read_note : Array (Option Value)} {oc_read_note kV_read_note dc_read_note pm_read_note cd_read_note ct_read_note : Value}
    {f_spellings : Addr} {od_spellings an_spellings : Option Addr} {sl_spellings : Array (Option Value)} {oc_spellings kV_spellings dc_spellings pm_spellings cd_spellings ct_spellings : Value}
    {f_apart : Addr} {od_apart an_apart : Option Addr} {sl_apart : Array (Option Value)} {oc_apart kV_apart dc_apart pm_apart cd_apart ct_apart : Value}
    {f_moved : Addr} {od_moved an_moved : Option Addr} {sl_moved : Array (Option Value)} {oc_moved kV_moved dc_moved pm_moved cd_moved ct_moved : Value}
    {f__law_roll : Addr} {od__law_roll an__law_roll : Option Addr} {sl__law_roll : Array (Option Value)} {oc__law_roll kV__law_roll dc__law_roll pm__law_roll cd__law_roll ct__law_roll : Value}
    {f__law_rounds : Addr} {od__law_rounds an__law_rounds : Option Addr} {sl__law_rounds : Array (Option Value)} {oc__law_rounds kV__law_rounds dc__law_rounds pm__law_rounds cd__law_rounds ct__law_rounds : Value}
    {f__law_told : Addr} {od__law_told an__law_told : Option Addr} {sl__law_told : Array (Option Value)} {oc__law_told kV__law_told dc__law_told pm__law_told cd__law_told ct__law_told : Value}
    {f_law : Addr} {od_law an_law : Option Addr} {sl_law : Array (Option Value)} {oc_law kV_law dc_law pm_law ct_law : Value}
    {u_LETTERS : Tok}
    {u_MOST : Tok}
    {u_STEPS : Addr} {uo_STEPS : Option Addr} {ui_STEPS : Array Value} {un_STEPS : Nat} {us_STEPS : Array (Option Value)}
    {C_BadNote : Addr}
    {C_BadTime : Addr}
    {C_BadLine : Addr}
    {C_NoLine : Addr}
    {C_BadPaper : Addr}
    {C_BadSize : Addr}
    {C_BadText : Addr}
    {C_BadStore : Addr}
    {C_NoSuch : Addr}
    (ca_Spelled : PySem.W.nsIn K mainGlobals "Spelled" = some (some (.ref K_Spelled)))
    (cg_Spelled : PySem.W.plainGet K K_Spelled Str.empty = true)
    (ch_Spelled : PySem.W.hasDictIn K K_Spelled = true)
    (co_Spelled : PySem.W.plainOver K K_Spelled = true)
    (cs_Spelled : PySem.W.findIn K (.ref K_Spelled) "__setattr__" = some (some (.builtin "object.__setattr__")))
    (cn_Spelled_letter : PySem.W.findIn K (.ref K_Spelled) "letter" = some none)
    (cn_Spelled_signs : PySem.W.findIn K (.ref K_Spelled) "signs" = some none)
    (cn_Spelled_octave : PySem.W.findIn K (.ref K_Spelled) "octave" = some none)
    (cm_Spelled : PySem.W.makesIn K K_Spelled = true)
    (ck_Spelled : PySem.W.keepIn K (.ref K_Spelled) = true)
    (a_check_note : PySem.W.nsIn K mainGlobals "check_note" = some (some (.ref f_check_note)))
    (l_check_note : K.lookup f_check_note = some ⟨oc_check_note, od_check_note, .func (PySem.W.fnOf "check_note" "check_note" (defArgs s_check_note) (defBody s_check_note) (defScope s_check_note) .none kV_check_note dc_check_note pm_check_note an_check_note cd_check_note ct_check_note), sl_check_note⟩)
    (e_check_note : PySem.W.codeIn K cd_check_note "check_note" = true)
    (k_check_note : PySem.W.keepIn K (.ref f_check_note) = true)
    (a_class_of : PySem.W.nsIn K mainGlobals "class_of" = some (some (.ref f_class_of)))
    (l_class_of : K.lookup f_class_of = some ⟨oc_class_of, od_class_of, .func (PySem.W.fnOf "class_of" "class_of" (defArgs s_class_of) (defBody s_class_of) (defScope s_class_of) .none kV_class_of dc_class_of pm_class_of an_class_of cd_class_of ct_class_of), sl_class_of⟩)
    (e_class_of : PySem.W.codeIn K cd_class_of "class_of" = true)
    (k_class_of : PySem.W.keepIn K (.ref f_class_of) = true)
    (a_octave_of : PySem.W.nsIn K mainGlobals "octave_of" = some (some (.ref f_octave_of)))
    (l_octave_of : K.lookup f_octave_of = some ⟨oc_octave_of, od_octave_of, .func (PySem.W.fnOf "octave_of" "octave_of" (defArgs s_octave_of) (defBody s_octave_of) (defScope s_octave_of) .none kV_octave_of dc_octave_of pm_octave_of an_octave_of cd_octave_of ct_octave_of), sl_octave_of⟩)
    (e_octave_of : PySem.W.codeIn K cd_octave_of "octave_of" = true)
    (k_octave_of : PySem.W.keepIn K (.ref f_octave_of) = true)
    (a_plain_steps : PySem.W.nsIn K mainGlobals "plain_steps" = some (some (.ref f_plain_steps)))
    (l_plain_steps : K.lookup f_plain_steps = some ⟨oc_plain_steps, od_plain_steps, .func (PySem.W.fnOf "plain_steps" "plain_steps" (defArgs s_plain_steps) (defBody s_plain_steps) (defScope s_plain_steps) .none kV_plain_steps dc_plain_steps pm_plain_steps an_plain_steps cd_plain_steps ct_plain_steps), sl_plain_steps⟩)
    (e_plain_steps : PySem.W.codeIn K cd_plain_steps "plain_steps" = true)
    (k_plain_steps : PySem.W.keepIn K (.ref f_plain_steps) = true)
    (a_Spelled : PySem.W.findIn K (.ref K_Spelled) "__init__" = some (some (.ref f_Spelled)))
    (i_Spelled : PySem.W.isFn K (.ref f_Spelled) = true)
    (l_Spelled : K.lookup f_Spelled = some ⟨oc_Spelled, od_Spelled, .func (PySem.W.fnOf "__init__" "Spelled.__init__" (defArgs s_Spelled) (defBody s_Spelled) (defScope s_Spelled) .none kV_Spelled dc_Spelled pm_Spelled an_Spelled cd_Spelled ct_Spelled), sl_Spelled⟩)
    (e_Spelled : PySem.W.codeIn K cd_Spelled "Spelled.__init__" = true)
    (k_Spelled : PySem.W.keepIn K (.ref f_Spelled) = true)
    (a_Spelled_place : PySem.W.findIn K (.ref K_Spelled) "place" = some (some (.ref f_Spelled_place)))
    (i_Spelled_place : PySem.W.isFn K (.ref f_Spelled_place) = true)
    (l_Spelled_place : K.lookup f_Spelled_place = some ⟨oc_Spelled_place, od_Spelled_place, .func (PySem.W.fnOf "place" "Spelled.place" (defArgs s_Spelled_place) (defBody s_Spelled_place) (defScope s_Spelled_place) .none kV_Spelled_place dc_Spelled_place pm_Spelled_place an_Spelled_place cd_Spelled_place ct_Spelled_place), sl_Spelled_place⟩)
    (e_Spelled_place : PySem.W.codeIn K cd_Spelled_place "Spelled.place" = true)
    (k_Spelled_place : PySem.W.keepIn K (.ref f_Spelled_place) = true)
    (a_Spelled_shown : PySem.W.findIn K (.ref K_Spelled) "shown" = some (some (.ref f_Spelled_shown)))
    (i_Spelled_shown : PySem.W.isFn K (.ref f_Spelled_shown) = true)
    (l_Spelled_shown : K.lookup f_Spelled_shown = some ⟨oc_Spelled_shown, od_Spelled_shown, .func (PySem.W.fnOf "shown" "Spelled.shown" (defArgs s_Spelled_shown) (defBody s_Spelled_shown) (defScope s_Spelled_shown) .none kV_Spelled_shown dc_Spelled_shown pm_Spelled_shown an_Spelled_shown cd_Spelled_shown ct_Spelled_shown), sl_Spelled_shown⟩)
    (e_Spelled_shown : PySem.W.codeIn K cd_Spelled_shown "Spelled.shown" = true)
    (k_Spelled_shown : PySem.W.keepIn K (.ref f_Spelled_shown) = true)
    (a_Spelled_told : PySem.W.findIn K (.ref K_Spelled) "told" = some (some (.ref f_Spelled_told)))
    (i_Spelled_told : PySem.W.isFn K (.ref f_Spelled_told) = true)
    (l_Spelled_told : K.lookup f_Spelled_told = some ⟨oc_Spelled_told, od_Spelled_told, .func (PySem.W.fnOf "told" "Spelled.told" (defArgs s_Spelled_told) (defBody s_Spelled_told) (defScope s_Spelled_told) .none kV_Spelled_told dc_Spelled_told pm_Spelled_told an_Spelled_told cd_Spelled_told ct_Spelled_told), sl_Spelled_told⟩)
    (e_Spelled_told : PySem.W.codeIn K cd_Spelled_told "Spelled.told" = true)
    (k_Spelled_told : PySem.W.keepIn K (.ref f_Spelled_told) = true)
    (a__law_dice : PySem.W.nsIn K mainGlobals "_law_dice" = some (some (.ref f__law_dice)))
    (l__law_dice : K.lookup f__law_dice = some ⟨oc__law_dice, od__law_dice, .func (PySem.W.fnOf "_law_dice" "_law_dice" (defArgs s__law_dice) (defBody s__law_dice) (defScope s__law_dice) .none kV__law_dice dc__law_dice pm__law_dice an__law_dice cd__law_dice ct__law_dice), sl__law_dice⟩)
    (e__law_dice : PySem.W.codeIn K cd__law_dice "_law_dice" = true)
    (k__law_dice : PySem.W.keepIn K (.ref f__law_dice) = true)
    (a_steps_of : PySem.W.nsIn K mainGlobals "steps_of" = some (some (.ref f_steps_of)))
    (l_steps_of : K.lookup f_steps_of = some ⟨oc_steps_of, od_steps_of, .func (PySem.W.fnOf "steps_of" "steps_of" (defArgs s_steps_of) (defBody s_steps_of) (defScope s_steps_of) .none kV_steps_of dc_steps_of pm_steps_of an_steps_of cd_steps_of ct_steps_of), sl_steps_of⟩)
    (e_steps_of : PySem.W.codeIn K cd_steps_of "steps_of" = true)
    (k_steps_of : PySem.W.keepIn K (.ref f_steps_of) = true)
    (a_turned : PySem.W.nsIn K mainGlobals "turned" = some (some (.ref f_turned)))
    (l_turned : K.lookup f_turned = some ⟨oc_turned, od_turned, .func (PySem.W.fnOf "turned" "turned" (defArgs s_turned) (defBody s_turned) (defScope s_turned) .none kV_turned dc_turned pm_turned an_turned cd_turned ct_turned), sl_turned⟩)
    (e_turned : PySem.W.codeIn K cd_turned "turned" = true)
    (k_turned : PySem.W.keepIn K (.ref f_turned) = true)
    (a_Spelled_note : PySem.W.findIn K (.ref K_Spelled) "note" = some (some (.ref f_Spelled_note)))
    (i_Spelled_note : PySem.W.isFn K (.ref f_Spelled_note) = true)
    (l_Spelled_note : K.lookup f_Spelled_note = some ⟨oc_Spelled_note, od_Spelled_note, .func (PySem.W.fnOf "note" "Spelled.note" (defArgs s_Spelled_note) (defBody s_Spelled_note) (defScope s_Spelled_note) .none kV_Spelled_note dc_Spelled_note pm_Spelled_note an_Spelled_note cd_Spelled_note ct_Spelled_note), sl_Spelled_note⟩)
    (e_Spelled_note : PySem.W.codeIn K cd_Spelled_note "Spelled.note" = true)
    (k_Spelled_note : PySem.W.keepIn K (.ref f_Spelled_note) = true)
    (a_read_note : PySem.W.nsIn K mainGlobals "read_note" = some (some (.ref f_read_note)))
    (l_read_note : K.lookup f_read_note = some ⟨oc_read_note, od_read_note, .func (PySem.W.fnOf "read_note" "read_note" (defArgs s_read_note) (defBody s_read_note) (defScope s_read_note) .none kV_read_note dc_read_note pm_read_note an_read_note cd_read_note ct_read_note), sl_read_note⟩)
    (e_read_note : PySem.W.codeIn K cd_read_note "read_note" = true)
    (k_read_note : PySem.W.keepIn K (.ref f_read_note) = true)
    (a_spellings : PySem.W.nsIn K mainGlobals "spellings" = some (some (.ref f_spellings)))
    (l_spellings : K.lookup f_spellings = some ⟨oc_spellings, od_spellings, .func (PySem.W.fnOf "spellings" "spellings" (defArgs s_spellings) (defBody s_spellings) (defScope s_spellings) .none kV_spellings dc_spellings pm_spellings an_spellings cd_spellings ct_spellings), sl_spellings⟩)
    (e_spellings : PySem.W.codeIn K cd_spellings "spellings" = true)
    (k_spellings : PySem.W.keepIn K (.ref f_spellings) = true)
    (a_apart : PySem.W.nsIn K mainGlobals "apart" = some (some (.ref f_apart)))
    (l_apart : K.lookup f_apart = some ⟨oc_apart, od_apart, .func (PySem.W.fnOf "apart" "apart" (defArgs s_apart) (defBody s_apart) (defScope s_apart) .none kV_apart dc_apart pm_apart an_apart cd_apart ct_apart), sl_apart⟩)
    (e_apart : PySem.W.codeIn K cd_apart "apart" = true)
    (k_apart : PySem.W.keepIn K (.ref f_apart) = true)
    (a_moved : PySem.W.nsIn K mainGlobals "moved" = some (some (.ref f_moved)))
    (l_moved : K.lookup f_moved = some ⟨oc_moved, od_moved, .func (PySem.W.fnOf "moved" "moved" (defArgs s_moved) (defBody s_moved) (defScope s_moved) .none kV_moved dc_moved pm_moved an_moved cd_moved ct_moved), sl_moved⟩)
    (e_moved : PySem.W.codeIn K cd_moved "moved" = true)
    (k_moved : PySem.W.keepIn K (.ref f_moved) = true)
    (a__law_roll : PySem.W.nsIn K mainGlobals "_law_roll" = some (some (.ref f__law_roll)))
    (l__law_roll : K.lookup f__law_roll = some ⟨oc__law_roll, od__law_roll, .func (PySem.W.fnOf "_law_roll" "_law_roll" (defArgs s__law_roll) (defBody s__law_roll) (defScope s__law_roll) .none kV__law_roll dc__law_roll pm__law_roll an__law_roll cd__law_roll ct__law_roll), sl__law_roll⟩)
    (e__law_roll : PySem.W.codeIn K cd__law_roll "_law_roll" = true)
    (k__law_roll : PySem.W.keepIn K (.ref f__law_roll) = true)
    (a__law_rounds : PySem.W.nsIn K mainGlobals "_law_rounds" = some (some (.ref f__law_rounds)))
    (l__law_rounds : K.lookup f__law_rounds = some ⟨oc__law_rounds, od__law_rounds, .func (PySem.W.fnOf "_law_rounds" "_law_rounds" (defArgs s__law_rounds) (defBody s__law_rounds) (defScope s__law_rounds) .none kV__law_rounds dc__law_rounds pm__law_rounds an__law_rounds cd__law_rounds ct__law_rounds), sl__law_rounds⟩)
    (e__law_rounds : PySem.W.codeIn K cd__law_rounds "_law_rounds" = true)
    (k__law_rounds : PySem.W.keepIn K (.ref f__law_rounds) = true)
    (a__law_told : PySem.W.nsIn K mainGlobals "_law_told" = some (some (.ref f__law_told)))
    (l__law_told : K.lookup f__law_told = some ⟨oc__law_told, od__law_told, .func (PySem.W.fnOf "_law_told" "_law_told" (defArgs s__law_told) (defBody s__law_told) (defScope s__law_told) .none kV__law_told dc__law_told pm__law_told an__law_told cd__law_told ct__law_told), sl__law_told⟩)
    (e__law_told : PySem.W.codeIn K cd__law_told "_law_told" = true)
    (k__law_told : PySem.W.keepIn K (.ref f__law_told) = true)
    (a_law : PySem.W.nsIn K mainGlobals "law" = some (some (.ref f_law)))
    (l_law : K.lookup f_law = some ⟨oc_law, od_law, .func (PySem.W.fnOf "law" "law" (defArgs s_law) (defBody s_law) (defScope s_law) .none kV_law dc_law pm_law an_law (.ref C) ct_law), sl_law⟩)
    (e_law : PySem.W.codeIn K (.ref C) "law" = true)
    (k_law : PySem.W.keepIn K (.ref f_law) = true)
    (z_abs : PySem.W.nsIn K mainGlobals "abs" = some none)
    (z_int : PySem.W.nsIn K mainGlobals "int" = some none)
    (z_len : PySem.W.nsIn K mainGlobals "len" = some none)
    (z_range : PySem.W.nsIn K mainGlobals "range" = some none)
    (z_sorted : PySem.W.nsIn K mainGlobals "sorted" = some none)
    (z_str : PySem.W.nsIn K mainGlobals "str" = some none)
    (z_tuple : PySem.W.nsIn K mainGlobals "tuple" = some none)
    (a_LETTERS : PySem.W.nsIn K mainGlobals "LETTERS" = some (some (.str "cdefgab" u_LETTERS)))
    (a_MOST : PySem.W.nsIn K mainGlobals "MOST" = some (some (.int 120 u_MOST)))
    (a_STEPS : PySem.W.nsIn K mainGlobals "STEPS" = some (some (.ref u_STEPS)))
    (l_STEPS : K.lookup u_STEPS = some ⟨.type "tuple", uo_STEPS, .seq ui_STEPS un_STEPS, us_STEPS⟩)
    (s_STEPS : ui_STEPS.size ≤ sizeLine)
    (v_STEPS : Vals [V.int 0, V.int 2, V.int 4, V.int 5, V.int 7, V.int 9, V.int 11] ui_STEPS.toList)
    (aX_BadNote : PySem.W.nsIn K mainGlobals "BadNote" = some (some (.ref C_BadNote)))
    (x_BadNote : PySem.W.excIn K C_BadNote [.type "ValueError", .type "Exception", .type "BaseException", .type "object"] "ValueError.__new__" = true)
    (kX_BadNote : PySem.W.keepIn K (.ref C_BadNote) = true)
    (bX_BadNote : PySem.W.subIn K (.ref C_BadNote) (.type "BaseException") = some true)
    (tX_BadNote : PySem.W.typeIn K (.ref C_BadNote) = some (.type "type"))
    (aX_BadTime : PySem.W.nsIn K mainGlobals "BadTime" = some (some (.ref C_BadTime)))
    (x_BadTime : PySem.W.excIn K C_BadTime [.type "ValueError", .type "Exception", .type "BaseException", .type "object"] "ValueError.__new__" = true)
    (kX_BadTime : PySem.W.keepIn K (.ref C_BadTime) = true)
    (bX_BadTime : PySem.W.subIn K (.ref C_BadTime) (.type "BaseException") = some true)
    (tX_BadTime : PySem.W.typeIn K (.ref C_BadTime) = some (.type "type"))
    (aX_BadLine : PySem.W.nsIn K mainGlobals "BadLine" = some (some (.ref C_BadLine)))
    (x_BadLine : PySem.W.excIn K C_BadLine [.type "ValueError", .type "Exception", .type "BaseException", .type "object"] "ValueError.__new__" = true)
    (kX_BadLine : PySem.W.keepIn K (.ref C_BadLine) = true)
    (bX_BadLine : PySem.W.subIn K (.ref C_BadLine) (.type "BaseException") = some true)
    (tX_BadLine : PySem.W.typeIn K (.ref C_BadLine) = some (.type "type"))
    (aX_NoLine : PySem.W.nsIn K mainGlobals "NoLine" = some (some (.ref C_NoLine)))
    (x_NoLine : PySem.W.excIn K C_NoLine [.type "ValueError", .type "Exception", .type "BaseException", .type "object"] "ValueError.__new__" = true)
    (kX_NoLine : PySem.W.keepIn K (.ref C_NoLine) = true)
    (bX_NoLine : PySem.W.subIn K (.ref C_NoLine) (.type "BaseException") = some true)
    (tX_NoLine : PySem.W.typeIn K (.ref C_NoLine) = some (.type "type"))
    (aX_BadPaper : PySem.W.nsIn K mainGlobals "BadPaper" = some (some (.ref C_BadPaper)))
    (x_BadPaper : PySem.W.excIn K C_BadPaper [.type "ValueError", .type "Exception", .type "BaseException", .type "object"] "ValueError.__new__" = true)
    (kX_BadPaper : PySem.W.keepIn K (.ref C_BadPaper) = true)
    (bX_BadPaper : PySem.W.subIn K (.ref C_BadPaper) (.type "BaseException") = some true)
    (tX_BadPaper : PySem.W.typeIn K (.ref C_BadPaper) = some (.type "type"))
    (aX_BadSize : PySem.W.nsIn K mainGlobals "BadSize" = some (some (.ref C_BadSize)))
    (x_BadSize : PySem.W.excIn K C_BadSize [.type "ValueError", .type "Exception", .type "BaseException", .type "object"] "ValueError.__new__" = true)
    (kX_BadSize : PySem.W.keepIn K (.ref C_BadSize) = true)
    (bX_BadSize : PySem.W.subIn K (.ref C_BadSize) (.type "BaseException") = some true)
    (tX_BadSize : PySem.W.typeIn K (.ref C_BadSize) = some (.type "type"))
    (aX_BadText : PySem.W.nsIn K mainGlobals "BadText" = some (some (.ref C_BadText)))
    (x_BadText : PySem.W.excIn K C_BadText [.type "ValueError", .type "Exception", .type "BaseException", .type "object"] "ValueError.__new__" = true)
    (kX_BadText : PySem.W.keepIn K (.ref C_BadText) = true)
    (bX_BadText : PySem.W.subIn K (.ref C_BadText) (.type "BaseException") = some true)
    (tX_BadText : PySem.W.typeIn K (.ref C_BadText) = some (.type "type"))
    (aX_BadStore : PySem.W.nsIn K mainGlobals "BadStore" = some (some (.ref C_BadStore)))
    (x_BadStore : PySem.W.excIn K C_BadStore [.type "ValueError", .type "Exception", .type "BaseException", .type "object"] "ValueError.__new__" = true)
    (kX_BadStore : PySem.W.keepIn K (.ref C_BadStore) = true)
    (bX_BadStore : PySem.W.subIn K (.ref C_BadStore) (.type "BaseException") = some true)
    (tX_BadStore : PySem.W.typeIn K (.ref C_BadStore) = some (.type "type"))
    (aX_NoSuch : PySem.W.nsIn K mainGlobals "NoSuch" = some (some (.ref C_NoSuch)))
    (x_NoSuch : PySem.W.excIn K C_NoSuch [.type "ValueError", .type "Exception", .type "BaseException", .type "object"] "ValueError.__new__" = true)
    (kX_NoSuch : PySem.W.keepIn K (.ref C_NoSuch) = true)
    (bX_NoSuch : PySem.W.subIn K (.ref C_NoSuch) (.type "BaseException") = some true)
    (tX_NoSuch : PySem.W.typeIn K (.ref C_NoSuch) = some (.type "type"))
    (exm : exmAll K (fun n => ([0, C_BadNote, C_BadTime, C_BadLine, C_NoLine, C_BadPaper, C_BadSize, C_BadText, C_BadStore, C_NoSuch] : List Addr).getD n 0) (NL.map (·.1)) = true) :
    ∃ fd : FuncData, (∀ (s : Shared) (v : Value), BindsTo s fd ⟨[v], []⟩ [("script", v)]) ∧ ∀ base : Heap, K.In base → base.Ns mainGlobals mg → LamX.TabB base mg C Pt → FnOk P w K mg base (L2.CX P w) 7 fa fd ["script"] (spLaw K [(Pt, (("law" : Str) ++ (".<locals>." : Str)) ++ "<lambda>")]) := by
  have e := hfa.symm.trans (PySem.W.mg_of X G a_law)
  cases e
  have CX_Spelled : ClsX K mg 0 K_Spelled := ⟨ca_Spelled, PySem.W.mg_of X G ca_Spelled, ⟨cg_Spelled, ch_Spelled, co_Spelled, cs_Spelled⟩, fun f hf => by
    have hf : f ∈ (["letter", "signs", "octave"] : List Str) := hf
    simp only [List.mem_cons, List.not_mem_nil, or_false] at hf
    rcases hf with rfl | rfl | rfl
    all_goals assumption⟩
  have Fn_check_note := fun_mk (st := s_check_note) l_check_note e_check_note k_check_note
  have bn_check_note := Fn_check_note.binds (ps := ["note"]) fun _ _ _ _ _ _ us hl => match us, hl with | [_], _ => rfl
  have Fn_class_of := fun_mk (st := s_class_of) l_class_of e_class_of k_class_of
  have bn_class_of := Fn_class_of.binds (ps := ["note"]) fun _ _ _ _ _ _ us hl => match us, hl with | [_], _ => rfl
  have Fn_octave_of := fun_mk (st := s_octave_of) l_octave_of e_octave_of k_octave_of
  have bn_octave_of := Fn_octave_of.binds (ps := ["note"]) fun _ _ _ _ _ _ us hl => match us, hl with | [_], _ => rfl
  have Fn_plain_steps := fun_mk (st := s_plain_steps) l_plain_steps e_plain_steps k_plain_steps
  have bn_plain_steps := Fn_plain_steps.binds (ps := ["letter", "octave"]) fun _ _ _ _ _ _ us hl => match us, hl with | [_, _], _ => rfl
  have Fn_Spelled := fun_mk (st := s_Spelled) l_Spelled e_Spelled k_Spelled
  have bn_Spelled := Fn_Spelled.binds (ps := ["self", "letter", "signs", "octave"]) fun _ _ _ _ _ _ us hl => match us, hl with | [_, _, _, _], _ => rfl
  have Fn_Spelled_place := fun_mk (st := s_Spelled_place) l_Spelled_place e_Spelled_place k_Spelled_place
  have bn_Spelled_place := Fn_Spelled_place.binds (ps := ["self"]) fun _ _ _ _ _ _ us hl => match us, hl with | [_], _ => rfl
  have Fn_Spelled_shown := fun_mk (st := s_Spelled_shown) l_Spelled_shown e_Spelled_shown k_Spelled_shown
  have bn_Spelled_shown := Fn_Spelled_shown.binds (ps := ["self"]) fun _ _ _ _ _ _ us hl => match us, hl with | [_], _ => rfl
  have Fn_Spelled_told := fun_mk (st := s_Spelled_told) l_Spelled_told e_Spelled_told k_Spelled_told
  have bn_Spelled_told := Fn_Spelled_told.binds (ps := ["self"]) fun _ _ _ _ _ _ us hl => match us, hl with | [_], _ => rfl
  have Fn__law_dice := fun_mk (st := s__law_dice) l__law_dice e__law_dice k__law_dice
  have bn__law_dice := Fn__law_dice.binds (ps := ["cell"]) fun _ _ _ _ _ _ us hl => match us, hl with | [_], _ => rfl
  have Fn_steps_of := fun_mk (st := s_steps_of) l_steps_of e_steps_of k_steps_of
  have bn_steps_of := Fn_steps_of.binds (ps := ["one"]) fun _ _ _ _ _ _ us hl => match us, hl with | [_], _ => rfl
  have Fn_turned := fun_mk (st := s_turned) l_turned e_turned k_turned
  have bn_turned := Fn_turned.binds (ps := ["note", "about"]) fun _ _ _ _ _ _ us hl => match us, hl with | [_, _], _ => rfl
  have Fn_Spelled_note := fun_mk (st := s_Spelled_note) l_Spelled_note e_Spelled_note k_Spelled_note
  have bn_Spelled_note := Fn_Spelled_note.binds (ps := ["self"]) fun _ _ _ _ _ _ us hl => match us, hl with | [_], _ => rfl
  have Fn_read_note := fun_mk (st := s_read_note) l_read_note e_read_note k_read_note
  have bn_read_note := Fn_read_note.binds (ps := ["text"]) fun _ _ _ _ _ _ us hl => match us, hl with | [_], _ => rfl
  have Fn_spellings := fun_mk (st := s_spellings) l_spellings e_spellings k_spellings
  have bn_spellings := Fn_spellings.binds (ps := ["note"]) fun _ _ _ _ _ _ us hl => match us, hl with | [_], _ => rfl
  have Fn_apart := fun_mk (st := s_apart) l_apart e_apart k_apart
  have bn_apart := Fn_apart.binds (ps := ["one", "other"]) fun _ _ _ _ _ _ us hl => match us, hl with | [_, _], _ => rfl
  have Fn_moved := fun_mk (st := s_moved) l_moved e_moved k_moved
  have bn_moved := Fn_moved.binds (ps := ["one", "letters", "steps"]) fun _ _ _ _ _ _ us hl => match us, hl with | [_, _, _], _ => rfl
  have Fn__law_roll := fun_mk (st := s__law_roll) l__law_roll e__law_roll k__law_roll
  have bn__law_roll := Fn__law_roll.binds (ps := ["dice", "many"]) fun _ _ _ _ _ _ us hl => match us, hl with | [_, _], _ => rfl
  have Fn__law_rounds := fun_mk (st := s__law_rounds) l__law_rounds e__law_rounds k__law_rounds
  have bn__law_rounds := Fn__law_rounds.binds (ps := ["script", "most"]) fun _ _ _ _ _ _ us hl => match us, hl with | [_, _], _ => rfl
  have Fn__law_told := fun_mk (st := s__law_told) l__law_told e__law_told k__law_told
  have bn__law_told := Fn__law_told.binds (ps := ["what"]) fun _ _ _ _ _ _ us hl => match us, hl with | [_], _ => rfl
  have TT : TX K mg (fun n => ([0, C_BadNote, C_BadTime, C_BadLine, C_NoLine, C_BadPaper, C_BadSize, C_BadText, C_BadStore, C_NoSuch] : List Addr).getD n 0) := ⟨PySem.W.mg_none_of X G z_abs, PySem.W.mg_none_of X G z_int, PySem.W.mg_none_of X G z_len, PySem.W.mg_none_of X G z_range, PySem.W.mg_none_of X G z_sorted, PySem.W.mg_none_of X G z_str, PySem.W.mg_none_of X G z_tuple, const_val (v := V.str "cdefgab") X G a_LETTERS ⟨_, rfl⟩ (fun _ => .str _), const_val (v := V.int 120) X G a_MOST ⟨_, rfl⟩ (fun _ => .int _), const_tup X G a_STEPS l_STEPS s_STEPS v_STEPS (fun _ => RepL.ints [0, 2, 4, 5, 7, 9, 11]), CX_Spelled.d, ⟨PySem.W.mg_of X G aX_BadNote, x_BadNote, kX_BadNote, bX_BadNote, tX_BadNote⟩, ⟨PySem.W.mg_of X G aX_BadText, x_BadText, kX_BadText, bX_BadText, tX_BadText⟩⟩
  refine ⟨PySem.W.fnOf "law" "law" (defArgs s_law) (defBody s_law) (defScope s_law) .none kV_law dc_law pm_law an_law (.ref C) ct_law, fun s v => .of_eq rfl, fun base _ _ tb => ?_⟩
  have d_check_note := fn_check_note (P := P) (w := w) (base := base) TT  Fn_check_note (PySem.W.mg_of X G a_check_note) bn_check_note
  have d_class_of := fn_class_of (P := P) (w := w) (base := base) TT  Fn_class_of (PySem.W.mg_of X G a_class_of) bn_class_of
  have d_octave_of := fn_octave_of (P := P) (w := w) (base := base) TT  Fn_octave_of (PySem.W.mg_of X G a_octave_of) bn_octave_of
  have d_plain_steps := fn_plain_steps (P := P) (w := w) (base := base) TT  Fn_plain_steps (PySem.W.mg_of X G a_plain_steps) bn_plain_steps
  have i_Spelled := fn_Spelled (P := P) (w := w) (base := base) TT  Fn_Spelled CX_Spelled ⟨cm_Spelled, a_Spelled, i_Spelled, ck_Spelled⟩ bn_Spelled
  have m_Spelled_place := fn_Spelled_place (P := P) (w := w) (base := base) TT  Fn_Spelled_place CX_Spelled ⟨a_Spelled_place, i_Spelled_place, k_Spelled_place⟩ bn_Spelled_place
  have m_Spelled_shown := fn_Spelled_shown (P := P) (w := w) (base := base) TT  Fn_Spelled_shown CX_Spelled ⟨a_Spelled_shown, i_Spelled_shown, k_Spelled_shown⟩ bn_Spelled_shown
  have m_Spelled_told := fn_Spelled_told (P := P) (w := w) (base := base) TT  Fn_Spelled_told CX_Spelled ⟨a_Spelled_told, i_Spelled_told, k_Spelled_told⟩ bn_Spelled_told
  have d__law_dice := fn__law_dice (P := P) (w := w) (base := base) TT  Fn__law_dice (PySem.W.mg_of X G a__law_dice) bn__law_dice
  have d_steps_of := fn_steps_of (P := P) (w := w) (base := base) TT d_plain_steps Fn_steps_of (PySem.W.mg_of X G a_steps_of) bn_steps_of
  have d_turned := fn_turned (P := P) (w := w) (base := base) TT d_check_note Fn_turned (PySem.W.mg_of X G a_turned) bn_turned
  have m_Spelled_note := fn_Spelled_note (P := P) (w := w) (base := base) TT d_check_note d_steps_of Fn_Spelled_note CX_Spelled ⟨a_Spelled_note, i_Spelled_note, k_Spelled_note⟩ bn_Spelled_note
  have d_read_note := fn_read_note (P := P) (w := w) (base := base) TT i_Spelled Fn_read_note (PySem.W.mg_of X G a_read_note) bn_read_note
  have d_spellings := fn_spellings (P := P) (w := w) (base := base) TT d_check_note i_Spelled Fn_spellings (PySem.W.mg_of X G a_spellings) bn_spellings
  have d_apart := fn_apart (P := P) (w := w) (base := base) TT m_Spelled_place d_steps_of Fn_apart (PySem.W.mg_of X G a_apart) bn_apart
  have d_moved := fn_moved (P := P) (w := w) (base := base) TT i_Spelled m_Spelled_place d_plain_steps d_steps_of Fn_moved (PySem.W.mg_of X G a_moved) bn_moved
  have RD : RollD P w K mg base := ⟨_, _, PySem.W.mg_of X G a__law_roll, k__law_roll, bn__law_roll, ok_roll Fn__law_roll TT.b_int⟩
  have hR := ok_rounds (P := P) (w := w) (base := base) Fn__law_rounds sc__law_rounds rfl (.inl rfl) rfl (fs_rounds TT d__law_dice) finR
  have TD : ToldD P w K mg base (fun n => ([0, C_BadNote, C_BadTime, C_BadLine, C_NoLine, C_BadPaper, C_BadSize, C_BadText, C_BadStore, C_NoSuch] : List Addr).getD n 0) NL := ⟨⟨_, _, ["what"], _, _, _, _, _, _, _, _, _, _, _, _, _, _, _, _, _, PySem.W.mg_of X G a__law_told, k__law_told, l__law_told, e__law_told, bn__law_told, sc__law_told, rfl, .inl rfl, (.cons rfl (PySem.W.mg_of X G aX_BadNote) (by decide) (.cons rfl (PySem.W.mg_of X G aX_BadTime) (by decide) (.cons rfl (PySem.W.mg_of X G aX_BadLine) (by decide) (.cons rfl (PySem.W.mg_of X G aX_NoLine) (by decide) (.cons rfl (PySem.W.mg_of X G aX_BadPaper) (by decide) (.cons rfl (PySem.W.mg_of X G aX_BadSize) (by decide) (.cons rfl (PySem.W.mg_of X G aX_BadText) (by decide) (.cons rfl (PySem.W.mg_of X G aX_BadStore) (by decide) (.cons rfl (PySem.W.mg_of X G aX_NoSuch) (by decide) .nil))))))))), fun f => rfl⟩, exm_all exm⟩
  exact law_ok (i := 1) l_law e_law sc_law rfl (by decide) (by first | exact .inl rfl | exact .inr rfl) rfl (PySem.W.mg_of X G a__law_rounds) k__law_rounds bn__law_rounds (hR.mono (by decide)) rfl (fs_body TT d_apart d_check_note d_class_of i_Spelled m_Spelled_note m_Spelled_place m_Spelled_shown m_Spelled_told d_moved d_octave_of d_read_note d_spellings d_turned RD TD tb) (fs_rest TT d_apart d_check_note d_class_of i_Spelled m_Spelled_note m_Spelled_place m_Spelled_shown m_Spelled_told d_moved d_octave_of d_read_note d_spellings d_turned RD TD tb) fin
end V

open PySem PySem.W PyProof.Rows
set_option maxHeartbeats 0 in
theorem PySem.Challenge.cw_voicewright_k01_notes_and_spellings_holds : PySem.Challenge.rw_voicewright_k01_notes_and_spellings.Holds := by
  w_on; o_law; k_head; (case hw => w_witness2)
  k_fill
  refine' FL.walk_law (l := PySem.Challenge.rw_voicewright_k01_notes_and_spellings) (n := 63) (k := 7) (x := "script") rfl (by decide) rfl ⟨rfl, by decide, by decide⟩ (fun w h Y => PySem.W.km_in_of Y) (fun w h Y => PySem.W.km_tabs_of Y _ (List.mem_singleton.mpr rfl)) ?fc ?fK ?fF
  case fF =>
    intro w mg fa h KX G hmg
    refine' V.all_mk KX G hmg ?ca_Spelled ?cg_Spelled ?ch_Spelled ?co_Spelled ?cs_Spelled ?cn_Spelled_letter ?cn_Spelled_signs ?cn_Spelled_octave ?cm_Spelled ?ck_Spelled ?a_check_note ?l_check_note ?e_check_note ?k_check_note ?a_class_of ?l_class_of ?e_class_of ?k_class_of ?a_octave_of ?l_octave_of ?e_octave_of ?k_octave_of ?a_plain_steps ?l_plain_steps ?e_plain_steps ?k_plain_steps ?a_Spelled ?i_Spelled ?l_Spelled ?e_Spelled ?k_Spelled ?a_Spelled_place ?i_Spelled_place ?l_Spelled_place ?e_Spelled_place ?k_Spelled_place ?a_Spelled_shown ?i_Spelled_shown ?l_Spelled_shown ?e_Spelled_shown ?k_Spelled_shown ?a_Spelled_told ?i_Spelled_told ?l_Spelled_told ?e_Spelled_told ?k_Spelled_told ?a__law_dice ?l__law_dice ?e__law_dice ?k__law_dice ?a_steps_of ?l_steps_of ?e_steps_of ?k_steps_of ?a_turned ?l_turned ?e_turned ?k_turned ?a_Spelled_note ?i_Spelled_note ?l_Spelled_note ?e_Spelled_note ?k_Spelled_note ?a_read_note ?l_read_note ?e_read_note ?k_read_note ?a_spellings ?l_spellings ?e_spellings ?k_spellings ?a_apart ?l_apart ?e_apart ?k_apart ?a_moved ?l_moved ?e_moved ?k_moved ?a__law_roll ?l__law_roll ?e__law_roll ?k__law_roll ?a__law_rounds ?l__law_rounds ?e__law_rounds ?k__law_rounds ?a__law_told ?l__law_told ?e__law_told ?k__law_told ?a_law ?l_law ?e_law ?k_law ?z_abs ?z_int ?z_len ?z_range ?z_sorted ?z_str ?z_tuple ?a_LETTERS ?a_MOST ?a_STEPS ?l_STEPS ?s_STEPS ?v_STEPS ?aX_BadNote ?x_BadNote ?kX_BadNote ?bX_BadNote ?tX_BadNote ?aX_BadTime ?x_BadTime ?kX_BadTime ?bX_BadTime ?tX_BadTime ?aX_BadLine ?x_BadLine ?kX_BadLine ?bX_BadLine ?tX_BadLine ?aX_NoLine ?x_NoLine ?kX_NoLine ?bX_NoLine ?tX_NoLine ?aX_BadPaper ?x_BadPaper ?kX_BadPaper ?bX_BadPaper ?tX_BadPaper ?aX_BadSize ?x_BadSize ?kX_BadSize ?bX_BadSize ?tX_BadSize ?aX_BadText ?x_BadText ?kX_BadText ?bX_BadText ?tX_BadText ?aX_BadStore ?x_BadStore ?kX_BadStore ?bX_BadStore ?tX_BadStore ?aX_NoSuch ?x_NoSuch ?kX_NoSuch ?bX_NoSuch ?tX_NoSuch ?exm
    (case ca_Spelled => k_is); (case cg_Spelled => k_is); (case ch_Spelled => k_is); (case co_Spelled => k_is); (case cs_Spelled => k_is); (case cn_Spelled_letter => k_is); (case cn_Spelled_signs => k_is); (case cn_Spelled_octave => k_is); (case cm_Spelled => k_is); (case ck_Spelled => k_is); (case a_check_note => k_is); (case l_check_note => k_is); (case e_check_note => k_is); (case k_check_note => k_is); (case a_class_of => k_is); (case l_class_of => k_is); (case e_class_of => k_is); (case k_class_of => k_is); (case a_octave_of => k_is); (case l_octave_of => k_is); (case e_octave_of => k_is); (case k_octave_of => k_is); (case a_plain_steps => k_is); (case l_plain_steps => k_is); (case e_plain_steps => k_is); (case k_plain_steps => k_is); (case a_Spelled => k_is); (case i_Spelled => k_is); (case l_Spelled => k_is); (case e_Spelled => k_is); (case k_Spelled => k_is); (case a_Spelled_place => k_is); (case i_Spelled_place => k_is); (case l_Spelled_place => k_is); (case e_Spelled_place => k_is); (case k_Spelled_place => k_is); (case a_Spelled_shown => k_is); (case i_Spelled_shown => k_is); (case l_Spelled_shown => k_is); (case e_Spelled_shown => k_is); (case k_Spelled_shown => k_is); (case a_Spelled_told => k_is); (case i_Spelled_told => k_is); (case l_Spelled_told => k_is); (case e_Spelled_told => k_is); (case k_Spelled_told => k_is); (case a__law_dice => k_is); (case l__law_dice => k_is); (case e__law_dice => k_is); (case k__law_dice => k_is); (case a_steps_of => k_is); (case l_steps_of => k_is); (case e_steps_of => k_is); (case k_steps_of => k_is); (case a_turned => k_is); (case l_turned => k_is); (case e_turned => k_is); (case k_turned => k_is); (case a_Spelled_note => k_is); (case i_Spelled_note => k_is); (case l_Spelled_note => k_is); (case e_Spelled_note => k_is); (case k_Spelled_note => k_is); (case a_read_note => k_is); (case l_read_note => k_is); (case e_read_note => k_is); (case k_read_note => k_is); (case a_spellings => k_is); (case l_spellings => k_is); (case e_spellings => k_is); (case k_spellings => k_is); (case a_apart => k_is); (case l_apart => k_is); (case e_apart => k_is); (case k_apart => k_is); (case a_moved => k_is); (case l_moved => k_is); (case e_moved => k_is); (case k_moved => k_is); (case a__law_roll => k_is); (case l__law_roll => k_is); (case e__law_roll => k_is); (case k__law_roll => k_is); (case a__law_rounds => k_is); (case l__law_rounds => k_is); (case e__law_rounds => k_is); (case k__law_rounds => k_is); (case a__law_told => k_is); (case l__law_told => k_is); (case e__law_told => k_is); (case k__law_told => k_is); (case a_law => k_is); (case l_law => k_is); (case e_law => k_is); (case k_law => k_is); (case z_abs => k_is); (case z_int => k_is); (case z_len => k_is); (case z_range => k_is); (case z_sorted => k_is); (case z_str => k_is); (case z_tuple => k_is); (case a_LETTERS => k_is); (case a_MOST => k_is); (case a_STEPS => k_is); (case l_STEPS => k_is); (case s_STEPS => decide); (case v_STEPS => exact (.cons ⟨_, rfl⟩ (.cons ⟨_, rfl⟩ (.cons ⟨_, rfl⟩ (.cons ⟨_, rfl⟩ (.cons ⟨_, rfl⟩ (.cons ⟨_, rfl⟩ (.cons ⟨_, rfl⟩ .nil)))))))); (case aX_BadNote => k_is); (case x_BadNote => k_exc); (case kX_BadNote => k_is); (case bX_BadNote => k_is); (case tX_BadNote => k_is); (case aX_BadTime => k_is); (case x_BadTime => k_exc); (case kX_BadTime => k_is); (case bX_BadTime => k_is); (case tX_BadTime => k_is); (case aX_BadLine => k_is); (case x_BadLine => k_exc); (case kX_BadLine => k_is); (case bX_BadLine => k_is); (case tX_BadLine => k_is); (case aX_NoLine => k_is); (case x_NoLine => k_exc); (case kX_NoLine => k_is); (case bX_NoLine => k_is); (case tX_NoLine => k_is); (case aX_BadPaper => k_is); (case x_BadPaper => k_exc); (case kX_BadPaper => k_is); (case bX_BadPaper => k_is); (case tX_BadPaper => k_is); (case aX_BadSize => k_is); (case x_BadSize => k_exc); (case kX_BadSize => k_is); (case bX_BadSize => k_is); (case tX_BadSize => k_is); (case aX_BadText => k_is); (case x_BadText => k_exc); (case kX_BadText => k_is); (case bX_BadText => k_is); (case tX_BadText => k_is); (case aX_BadStore => k_is); (case x_BadStore => k_exc); (case kX_BadStore => k_is); (case bX_BadStore => k_is); (case tX_BadStore => k_is); (case aX_NoSuch => k_is); (case x_NoSuch => k_exc); (case kX_NoSuch => k_is); (case bX_NoSuch => k_is); (case tX_NoSuch => k_is); (case exm => first | rfl | kernel_rfl)
  case fc => intro w; first | rfl | kernel_rfl | k_is
  case fK => intro w; first | rfl | kernel_rfl | k_is
