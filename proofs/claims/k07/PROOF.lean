import PyProof.Rows.All
import HandS.ForMost
import HandS.ForExc
import HandS.More
import HandS.TryMany
import HandS.Lambda
import HandS.Flow
import HandS.TupAny
import HandS.Zip
import HandS.NoneIn
import HandS.SortKw
import KE.DataMinMax
import KE.SortData
import HandS.EndTab
import HandS.HeadWalk
import HandS.Gcd
import HandS.CallSlots
import HandS.Defaults
import HandS.Conv
import HandS.Style
import HandS.Text
import HandS.StrMore
import HandS.Replace
import HandS.Deep
import HandS.GenList
import HandS.AnyAll
import KE.KDictZip
import KE.GoesMore
import KE.GoesEnum
import HandS.RevTup
import PySem.Challenge.RW_voicewright_k07_tunes_that_follow_themse
set_option Elab.async false
set_option linter.all false
set_option maxRecDepth 100000
set_option maxHeartbeats 2000000
/-! FL1: data by value (D), what stands for it in a heap (Rep), the state of a def by values (S), effects (M), judgements. -/
namespace FL
open PySem PySem.Spec PyProof.Rows L2

/-- the tables of code objects that the defs fill, and the name that their code objects bear; whether this is the law itself -/
abbrev Tb := List (Addr × PySem.Str) × Bool
/-- a lambda without parameters and captured names, as written, the name of its code, its place in the reader's list -/
structure Lam where
  params : Arguments
  body : Expr
  scope : Scope
  q : PySem.Str
  ix : Nat
def LamO (L : Lam) (f c' : Addr) : HO := .ext fun h => ∃ pm ctv : Value, h.get? f = some (PySem.W.kla_obj "<lambda>" L.q L.params L.body L.scope [] pm c' ctv)
inductive D where
  | non | bl (b : Bool) | int (i : Int) | str (s : PySem.Str) | lst (xs : List D) | tup (xs : List D) | ins (n : Nat) (ds : List D) | fn (L : Lam)

/-- the program's classes by number: their names, their fields in the order in which __init__ sets them -/
def clsName : Nat → PySem.Str
  | 0 => "Spelled" | 1 => "Key" | 2 => "Rules" | 3 => "Style" | 4 => "Meter" | 5 => "Tempos" | 6 => "Score" | 7 => "Neck" | 8 => "Kept" | _ => "Desk"
def fldN : Nat → List PySem.Str
  | 0 => ["letter", "signs", "octave"] | 1 => ["root", "kind"] | 2 => ["notes", "leap", "along", "repeat", "above"] | 3 => ["chords", "costs", "moves", "other"] | 4 => ["beats", "length", "strong"]
  | 5 => ["changes"] | 6 => ["lines"] | 7 => ["strings", "places"] | 8 => ["given", "rules", "table", "done"] | _ => ["kept", "text", "many"]
/-- the class at C is the n-th -/
def ClsAt (K : PySem.W.Frag) (n : Nat) (C : Addr) : Prop := PySem.W.nsIn K mainGlobals (clsName n) = some (some (.ref C))

mutual
inductive Rep (K : PySem.W.Frag) (G : Hp) : V → D → Prop
  | non : Rep K G .non .non
  | bl (b : Bool) : Rep K G (.bl b) (.bl b)
  | int (i : Int) : Rep K G (.int i) (.int i)
  | str (x : PySem.Str) : Rep K G (.str x) (.str x)
  | lst {a : Addr} {xs : List V} {ds : List D} : G a = some (.lst xs) → RepL K G xs ds → Rep K G (.ref a) (.lst ds)
  | tup {a : Addr} {xs : List V} {ds : List D} : SqT K G a xs → RepL K G xs ds → Rep K G (.ref a) (.tup ds)
  | ins {a C dx : Addr} {n : Nat} {vs : List V} {ds : List D} : ClsAt K n C → G a = some (.ins C dx ((fldN n).zip vs)) → ds.length = (fldN n).length → RepL K G vs ds → Rep K G (.ref a) (.ins n ds)
  | fn {f c' : Addr} {L : Lam} : G f = some (LamO L f c') → G c' = some (LamX.CodeO c' L.q) → Rep K G (.ref f) (.fn L)
inductive RepL (K : PySem.W.Frag) (G : Hp) : List V → List D → Prop
  | nil : RepL K G [] []
  | cons {v : V} {vs : List V} {d : D} {ds : List D} : Rep K G v d → RepL K G vs ds → RepL K G (v :: vs) (d :: ds)
end

theorem seqT {K : PySem.W.Frag} {H H' : Hp} {a : Addr} {xs : List V} (e : Same H H') (h : SqT K H a xs) : SqT K H' a xs := by
  rcases h with (h | ⟨o, h⟩) | h
  · exact .inl (.inl (e _ _ h))
  · exact .inl (.inr ⟨o, e _ _ h⟩)
  · exact .inr h
mutual
theorem Rep.mono {K : PySem.W.Frag} {G G' : Hp} (e : Same G G') : ∀ {v : V} {d : D}, Rep K G v d → Rep K G' v d
  | _, _, .non => .non
  | _, _, .bl b => .bl b
  | _, _, .int i => .int i
  | _, _, .str x => .str x
  | _, _, .lst h r => .lst (e _ _ h) (RepL.mono e r)
  | _, _, .tup h r => .tup (seqT e h) (RepL.mono e r)
  | _, _, .ins k h l r => .ins k (e _ _ h) l (RepL.mono e r)
  | _, _, .fn h1 h2 => .fn (e _ _ h1) (e _ _ h2)
theorem RepL.mono {K : PySem.W.Frag} {G G' : Hp} (e : Same G G') : ∀ {v : List V} {d : List D}, RepL K G v d → RepL K G' v d
  | _, _, .nil => .nil
  | _, _, .cons h r => .cons (Rep.mono e h) (RepL.mono e r)
end
theorem RepL.length {K : PySem.W.Frag} {G : Hp} : ∀ {v : List V} {d : List D}, RepL K G v d → v.length = d.length
  | _, _, .nil => rfl
  | _, _, .cons _ r => by simp [RepL.length r]
theorem RepL.get {K : PySem.W.Frag} {G : Hp} : ∀ {vs : List V} {ds : List D} {i : Nat} {d : D}, RepL K G vs ds → ds[i]? = some d → ∃ v, vs[i]? = some v ∧ Rep K G v d
  | _, _, _, _, .nil, e => by simp at e
  | _, _, 0, _, .cons r _, e => by simp at e; subst e; exact ⟨_, rfl, r⟩
  | _, _, i + 1, d, .cons _ t, e => by
    obtain ⟨v, h1, h2⟩ := RepL.get (i := i) (d := d) t (by simpa using e)
    exact ⟨v, by simpa using h1, h2⟩
theorem RepL.get' {K : PySem.W.Frag} {G : Hp} : ∀ {vs : List V} {ds : List D} {i : Nat} {v : V}, RepL K G vs ds → vs[i]? = some v → ∃ d, ds[i]? = some d ∧ Rep K G v d
  | _, _, _, _, .nil, e => by simp at e
  | _, _, 0, _, .cons r _, e => by simp at e; subst e; exact ⟨_, rfl, r⟩
  | _, _, i + 1, d, .cons _ t, e => by
    obtain ⟨v, h1, h2⟩ := RepL.get' (i := i) (v := d) t (by simpa using e)
    exact ⟨v, by simpa using h1, h2⟩
theorem RepL.append {K : PySem.W.Frag} {G : Hp} : ∀ {vs ws : List V} {ds es : List D}, RepL K G vs ds → RepL K G ws es → RepL K G (vs ++ ws) (ds ++ es)
  | _, _, _, _, .nil, r => r
  | _, _, _, _, .cons h t, r => .cons h (RepL.append t r)
theorem RepL.take {K : PySem.W.Frag} {G : Hp} : ∀ {vs : List V} {ds : List D} (n : Nat), RepL K G vs ds → RepL K G (vs.take n) (ds.take n)
  | _, _, 0, _ => .nil
  | _, _, _ + 1, .nil => .nil
  | _, _, n + 1, .cons h t => .cons h (RepL.take n t)
theorem RepL.drop {K : PySem.W.Frag} {G : Hp} : ∀ {vs : List V} {ds : List D} (n : Nat), RepL K G vs ds → RepL K G (vs.drop n) (ds.drop n)
  | _, _, 0, r => r
  | _, _, _ + 1, .nil => .nil
  | _, _, n + 1, .cons h t => RepL.drop n t
theorem RepL.set {K : PySem.W.Frag} {G : Hp} {v : V} {d : D} (hv : Rep K G v d) : ∀ {vs : List V} {ds : List D} (n : Nat), RepL K G vs ds → RepL K G (vs.set n v) (ds.set n d)
  | _, _, _, .nil => .nil
  | _, _, 0, .cons _ t => .cons hv t
  | _, _, n + 1, .cons h t => .cons h (RepL.set hv n t)
theorem RepL.ints {K : PySem.W.Frag} {G : Hp} : ∀ (ns : List Int), RepL K G (ns.map V.int) (ns.map D.int)
  | [] => .nil
  | n :: r => .cons (.int n) (RepL.ints r)
theorem RepL.ints' {K : PySem.W.Frag} {G : Hp} : ∀ {vs : List V} {ns : List Int}, RepL K G vs (ns.map D.int) → vs = ns.map V.int
  | _, [], .nil => rfl
  | _, n :: r, .cons h t => by cases h; rw [RepL.ints' t]; rfl
theorem RepL.none {K : PySem.W.Frag} {G : Hp} {vs : List V} {ds : List D} {i : Nat} (r : RepL K G vs ds) (h : ds[i]? = none) : vs[i]? = none := by
  rw [List.getElem?_eq_none_iff] at h ⊢
  rw [r.length]; exact h

/-- a slot: nothing known; a value (frozen); a list that this slot alone holds -/
inductive Sl where
  | un | val (d : D) | own (xs : List D)
abbrev De := List Sl

/-- the state: F what the callers hold (not ours to touch), G what is frozen -/
structure S (κ : PySem.W.Frag × Tb) (F : Hp) (σ : L2.St) (G H : Hp) (δ : De) : Prop where
  sub : Same G H
  frm : Same F H
  dis : ∀ b o, F b = some o → G b = none
  len : δ.length = σ.length
  val : ∀ (i : Nat) d, δ[i]? = some (.val d) → ∃ v, σ[i]? = some (some v) ∧ Rep κ.1 G v d
  own : ∀ (i : Nat) xs, δ[i]? = some (.own xs) → ∃ p vs, σ[i]? = some (some (.ref p)) ∧ H p = some (.lst vs) ∧ RepL κ.1 G vs xs ∧ G p = none ∧ F p = none
  inj : ∀ (i j : Nat) xs ys, i ≠ j → δ[i]? = some (.own xs) → δ[j]? = some (.own ys) → σ[i]? ≠ σ[j]?
  tab : LamX.Tabs κ.2.1 H
  tnf : ∀ p ∈ κ.2.1, F p.1 = none ∧ G p.1 = none
  ntg : ∀ b ps, G b ≠ some (.tbl ps)
  ntf : ∀ b ps, F b ≠ some (.tbl ps)
  lw : κ.2.2 = true → ∀ b o, F b = some o → ∃ xs, o = .lst xs

/-- a list is changed: no table sees it -/
theorem tabs_lst {T : List (Addr × PySem.Str)} {H : Hp} {p : Addr} {vs ws : List V} (t : LamX.Tabs T H) (h : H p = some (.lst vs)) : LamX.Tabs T (upd H p (.lst ws)) := fun x hx => by
  obtain ⟨ps, h1, h2, h3⟩ := t x hx
  refine ⟨ps, ?_, h2, fun pos cv hc => ?_⟩
  · rw [upd_ne]
    · exact h1
    · intro e; rw [e, h] at h1; cases h1
  · obtain ⟨c, e1, e2⟩ := h3 pos cv hc
    refine ⟨c, e1, ?_⟩
    rw [upd_ne]
    · exact e2
    · intro e
      rw [e, h] at e2
      unfold LamX.CodeO at e2
      cases e2
theorem same_upd {H : Hp} {p : Addr} {o : HO} (h : H p = none) : Same H (upd H p o) := fun b x e => by
  rw [upd_ne (ne_of_none e h)]; exact e
section
variable {K : PySem.W.Frag} {T : Tb} {F : Hp} {σ : L2.St} {G H : Hp} {δ : De}
/-- a new frozen object -/
theorem S.tab_at (s : S (K, T) F σ G H δ) {x : Addr × PySem.Str} (hx : x ∈ T.1) : ∃ ps, H x.1 = some (.tbl ps) := let ⟨ps, h, _⟩ := s.tab x hx; ⟨ps, h⟩
theorem S.new (s : S (K, T) F σ G H δ) {p : Addr} {o : HO} (h : H p = none) (no : ∀ ps, o ≠ .tbl ps := by intro _ z; cases z) : S (K, T) F σ (upd G p o) (upd H p o) δ := by
  have hg : G p = none := s.sub.free h
  have sg : Same G (upd G p o) := same_upd hg
  have nb : ∀ b x, H b = some x → b ≠ p := fun b x e => ne_of_none e h
  refine ⟨fun b x e => ?_, fun b x e => ?_, fun b x e => ?_, s.len, fun i d e => ?_, fun i xs e => ?_, s.inj, s.tab.ext (same_upd h), fun x hx => ?_, fun b ps e => ?_, s.ntf, s.lw⟩
  · by_cases hb : b = p
    · subst hb; rw [upd_same] at e ⊢; exact e
    · rw [upd_ne hb] at e ⊢; exact s.sub _ _ e
  · rw [upd_ne (nb _ _ (s.frm _ _ e))]; exact s.frm _ _ e
  · rw [upd_ne (nb _ _ (s.frm _ _ e))]; exact s.dis _ _ e
  · obtain ⟨v, h1, h2⟩ := s.val i d e
    exact ⟨v, h1, h2.mono sg⟩
  · obtain ⟨q, vs, h1, h2, h3, h4, h5⟩ := s.own i xs e
    exact ⟨q, vs, h1, by rw [upd_ne (nb _ _ h2)]; exact h2, h3.mono sg, by rw [upd_ne (nb _ _ h2)]; exact h4, h5⟩
  · obtain ⟨ps, hp⟩ := s.tab_at hx
    rw [upd_ne (nb _ _ hp)]
    exact s.tnf x hx
  · by_cases hb : b = p
    · subst hb; rw [upd_same] at e; exact no ps (Option.some.inj e)
    · rw [upd_ne hb] at e; exact s.ntg b ps e
/-- a new object that the heap has and nothing is frozen of -/
theorem S.newH (s : S (K, T) F σ G H δ) {p : Addr} {o : HO} (h : H p = none) : S (K, T) F σ G (upd H p o) δ := by
  have nb : ∀ b x, H b = some x → b ≠ p := fun b x e => ne_of_none e h
  refine ⟨fun b x e => ?_, fun b x e => ?_, s.dis, s.len, s.val, fun i xs e => ?_, s.inj, s.tab.ext (same_upd h), s.tnf, s.ntg, s.ntf, s.lw⟩
  · rw [upd_ne (nb _ _ (s.sub _ _ e))]; exact s.sub _ _ e
  · rw [upd_ne (nb _ _ (s.frm _ _ e))]; exact s.frm _ _ e
  · obtain ⟨q, vs, h1, h2, h3, h4, h5⟩ := s.own i xs e
    exact ⟨q, vs, h1, by rw [upd_ne (nb _ _ h2)]; exact h2, h3, h4, h5⟩
theorem S.new_none (s : S (K, T) F σ G H δ) {p : Addr} (h : H p = none) : G p = none := s.sub.free h
/-- what is frozen is still there in another state -/
theorem S.store (s : S (K, T) F σ G H δ) {v : V} {d : D} (i : Nat) (r : Rep K G v d) : S (K, T) F (σ.set i (some v)) G H (δ.set i (.val d)) := by
  refine ⟨s.sub, s.frm, s.dis, by simp [s.len], fun j e h => ?_, fun j xs h => ?_, fun j k xs ys hn h1 h2 => ?_, s.tab, s.tnf, s.ntg, s.ntf, s.lw⟩
  · by_cases hj : i = j
    · subst hj
      have hl : i < δ.length := by
        cases Nat.lt_or_ge i δ.length with
        | inl h => exact h
        | inr h' => rw [List.getElem?_eq_none_iff.mpr (by simpa using h')] at h; cases h
      rw [List.getElem?_set_self hl] at h
      cases h
      exact ⟨v, by rw [List.getElem?_set_self (by rw [← s.len]; exact hl)], r⟩
    · rw [List.getElem?_set_ne hj] at h ⊢
      exact s.val j e h
  · by_cases hj : i = j
    · subst hj
      have hl : i < δ.length := by
        cases Nat.lt_or_ge i δ.length with
        | inl h => exact h
        | inr h' => rw [List.getElem?_eq_none_iff.mpr (by simpa using h')] at h; cases h
      rw [List.getElem?_set_self hl] at h
      cases h
    · rw [List.getElem?_set_ne hj] at h ⊢
      exact s.own j xs h
  · have nj : ∀ (j : Nat) (xs : List D), (δ.set i (.val d))[j]? = some (.own xs) → i ≠ j := fun j xs h hj => by
      subst hj
      have hl : i < δ.length := by
        cases Nat.lt_or_ge i δ.length with
        | inl h => exact h
        | inr h' => rw [List.getElem?_eq_none_iff.mpr (by simpa using h')] at h; cases h
      rw [List.getElem?_set_self hl] at h
      cases h
    have n1 := nj j xs h1
    have n2 := nj k ys h2
    rw [List.getElem?_set_ne n1] at h1 ⊢
    rw [List.getElem?_set_ne n2] at h2 ⊢
    exact s.inj j k xs ys hn h1 h2
theorem get_set {α : Type} {l : List α} {i j : Nat} {a b : α} (h : (l.set i a)[j]? = some b) : (i = j ∧ i < l.length ∧ b = a) ∨ (i ≠ j ∧ l[j]? = some b) := by
  by_cases hj : i = j
  · subst hj
    have hl : i < l.length := by
      cases Nat.lt_or_ge i l.length with
      | inl h => exact h
      | inr h' => rw [List.getElem?_eq_none_iff.mpr (by simpa using h')] at h; cases h
    rw [List.getElem?_set_self hl] at h
    cases h
    exact .inl ⟨rfl, hl, rfl⟩
  · rw [List.getElem?_set_ne hj] at h
    exact .inr ⟨hj, h⟩
/-- a slot is forgotten, with whatever stands in it -/
theorem S.wipe (s : S (K, T) F σ G H δ) (i : Nat) (v : Option V) : S (K, T) F (σ.set i v) G H (δ.set i .un) := by
  refine ⟨s.sub, s.frm, s.dis, by simp [s.len], fun j e h => ?_, fun j xs h => ?_, fun j k xs ys hn h1 h2 => ?_, s.tab, s.tnf, s.ntg, s.ntf, s.lw⟩
  · rcases get_set h with ⟨_, _, z⟩ | ⟨hj, h⟩
    · cases z
    · rw [List.getElem?_set_ne hj]; exact s.val j e h
  · rcases get_set h with ⟨_, _, z⟩ | ⟨hj, h⟩
    · cases z
    · rw [List.getElem?_set_ne hj]; exact s.own j xs h
  · rcases get_set h1 with ⟨_, _, z⟩ | ⟨hj, h1⟩
    · cases z
    · rcases get_set h2 with ⟨_, _, z⟩ | ⟨hk, h2⟩
      · cases z
      · rw [List.getElem?_set_ne hj, List.getElem?_set_ne hk]; exact s.inj j k xs ys hn h1 h2
/-- a new list of one's own is stored -/
theorem S.storeOwn (s : S (K, T) F σ G H δ) {p : Addr} {vs : List V} {xs : List D} (i : Nat) (h : H p = none) (r : RepL K G vs xs) : S (K, T) F (σ.set i (some (.ref p))) G (upd H p (.lst vs)) (δ.set i (.own xs)) := by
  have s1 := s.newH (o := .lst vs) h
  have nb : ∀ b x, H b = some x → b ≠ p := fun b x e => ne_of_none e h
  have gp : G p = none := s.sub.free h
  have fp : F p = none := s.frm.free h
  refine ⟨s1.sub, s1.frm, s1.dis, by simp [s.len], fun j e h' => ?_, fun j ys h' => ?_, fun j k ys zs hn h1 h2 => ?_, s1.tab, s1.tnf, s1.ntg, s1.ntf, s1.lw⟩
  · rcases get_set h' with ⟨_, _, z⟩ | ⟨hj, h'⟩
    · cases z
    · rw [List.getElem?_set_ne hj]; exact s.val j e h'
  · rcases get_set h' with ⟨hj, hl, z⟩ | ⟨hj, h'⟩
    · cases z
      subst hj
      exact ⟨p, vs, by rw [List.getElem?_set_self (by rw [← s.len]; exact hl)], upd_same, r, gp, fp⟩
    · rw [List.getElem?_set_ne hj]; exact s1.own j ys h'
  · have ne : ∀ (j : Nat) ys, δ[j]? = some (.own ys) → σ[j]? ≠ some (some (.ref p)) := fun j ys h' z => by
      obtain ⟨q, ws, e1, e2, _⟩ := s.own j ys h'
      rw [z] at e1
      cases e1
      exact nb _ _ e2 rfl
    rcases get_set h1 with ⟨hj, hl, z⟩ | ⟨hj, h1⟩
    · rcases get_set h2 with ⟨hk, _, z2⟩ | ⟨hk, h2⟩
      · exact absurd (hj.symm.trans hk) hn
      · subst hj
        rw [List.getElem?_set_self (by rw [← s.len]; exact hl), List.getElem?_set_ne hk]
        exact Ne.symm (ne _ _ h2)
    · rcases get_set h2 with ⟨hk, hl, z2⟩ | ⟨hk, h2⟩
      · subst hk
        rw [List.getElem?_set_self (by rw [← s.len]; exact hl), List.getElem?_set_ne hj]
        exact ne _ _ h1
      · rw [List.getElem?_set_ne hj, List.getElem?_set_ne hk]; exact s.inj j k ys zs hn h1 h2
/-- a list of one's own is changed -/
theorem S.setOwn (s : S (K, T) F σ G H δ) {i : Nat} {xs ys : List D} {p : Addr} {ws : List V} (h : δ[i]? = some (.own xs)) (hp : σ[i]? = some (some (.ref p))) (r : RepL K G ws ys) : S (K, T) F σ G (upd H p (.lst ws)) (δ.set i (.own ys)) := by
  obtain ⟨q, vs, e1, e2, e3, e4, e5⟩ := s.own i xs h
  rw [hp] at e1
  cases e1
  have gn : ∀ b x, G b = some x → b ≠ p := fun b x e => ne_of_none e e4
  have fn : ∀ b x, F b = some x → b ≠ p := fun b x e => ne_of_none e e5
  refine ⟨fun b x e => ?_, fun b x e => ?_, s.dis, by simp [s.len], fun j e h' => ?_, fun j zs h' => ?_, fun j k zs us hn h1 h2 => ?_, tabs_lst s.tab e2, s.tnf, s.ntg, s.ntf, s.lw⟩
  · rw [upd_ne (gn _ _ e)]; exact s.sub _ _ e
  · rw [upd_ne (fn _ _ e)]; exact s.frm _ _ e
  · rcases get_set h' with ⟨_, _, z⟩ | ⟨hj, h'⟩
    · cases z
    · exact s.val j e h'
  · rcases get_set h' with ⟨hj, hl, z⟩ | ⟨hj, h'⟩
    · cases z
      subst hj
      exact ⟨p, ws, hp, upd_same, r, e4, e5⟩
    · obtain ⟨q, us, f1, f2, f3, f4, f5⟩ := s.own j zs h'
      refine ⟨q, us, f1, ?_, f3, f4, f5⟩
      rw [upd_ne]
      · exact f2
      · rintro rfl
        exact s.inj i j xs zs hj h h' (hp.trans f1.symm)
  · have back : ∀ (j : Nat) zs, (δ.set i (.own ys))[j]? = some (.own zs) → ∃ us, δ[j]? = some (.own us) := fun j zs h' => by
      rcases get_set h' with ⟨hj, hl, z⟩ | ⟨hj, h'⟩
      · subst hj; exact ⟨xs, h⟩
      · exact ⟨zs, h'⟩
    obtain ⟨u1, g1⟩ := back j zs h1
    obtain ⟨u2, g2⟩ := back k us h2
    exact s.inj j k u1 u2 hn g1 g2
/-- a list of one's own is frozen: from now on a value -/
theorem S.freeze (s : S (K, T) F σ G H δ) {i : Nat} {xs : List D} (h : δ[i]? = some (.own xs)) : ∃ p vs, σ[i]? = some (some (.ref p)) ∧ G p = none ∧ H p = some (.lst vs) ∧ RepL K G vs xs ∧ S (K, T) F σ (upd G p (.lst vs)) H (δ.set i (.val (.lst xs))) := by
  obtain ⟨p, vs, e1, e2, e3, e4, e5⟩ := s.own i xs h
  refine ⟨p, vs, e1, e4, e2, e3, ?_⟩
  have sg : Same G (upd G p (.lst vs)) := same_upd e4
  refine ⟨fun b x e => ?_, s.frm, fun b x e => ?_, by simp [s.len], fun j d h' => ?_, fun j zs h' => ?_, fun j k zs us hn h1 h2 => ?_, s.tab, fun x hx => ⟨(s.tnf x hx).1, ?_⟩, fun b ps e => ?_, s.ntf, s.lw⟩
  · by_cases hb : b = p
    · subst hb; rw [upd_same] at e; rw [← e]; exact e2
    · rw [upd_ne hb] at e; exact s.sub _ _ e
  · rw [upd_ne (ne_of_none e e5)]; exact s.dis _ _ e
  · rcases get_set h' with ⟨hj, hl, z⟩ | ⟨hj, h'⟩
    · cases z
      subst hj
      exact ⟨_, e1, .lst upd_same (e3.mono sg)⟩
    · obtain ⟨v, f1, f2⟩ := s.val j d h'
      exact ⟨v, f1, f2.mono sg⟩
  · rcases get_set h' with ⟨hj, hl, z⟩ | ⟨hj, h'⟩
    · cases z
    · obtain ⟨q, us, f1, f2, f3, f4, f5⟩ := s.own j zs h'
      refine ⟨q, us, f1, f2, f3.mono sg, ?_, f5⟩
      rw [upd_ne]
      · exact f4
      · rintro rfl
        exact s.inj i j xs zs hj h h' (e1.trans f1.symm)
  · rcases get_set h1 with ⟨hj, hl, z⟩ | ⟨hj, h1⟩
    · cases z
    · rcases get_set h2 with ⟨hk, hl, z⟩ | ⟨hk, h2⟩
      · cases z
      · exact s.inj j k zs us hn h1 h2
  · obtain ⟨ps, hp⟩ := s.tab_at hx
    rw [upd_ne]
    · exact (s.tnf x hx).2
    · intro e; rw [e, e2] at hp; cases hp
  · by_cases hb : b = p
    · subst hb; rw [upd_same] at e; cases e
    · rw [upd_ne hb] at e; exact s.ntg b ps e
end
end FL

set_option Elab.async false
set_option linter.all false
set_option maxRecDepth 100000
set_option maxHeartbeats 2000000
/-! FL2: effects, contexts, judgements; rules of expressions. -/
namespace FL
open PySem PySem.Spec PyProof.Rows L2

/-! ### effects -/
inductive R (α : Type) where
  | ok (a : α) (δ : De) | ex (c : Nat)
abbrev M (α : Type) := De → Option (R α)
def bindM {α β : Type} (m : M α) (k : α → M β) : M β := fun δ => match m δ with
  | none => none
  | some (.ex c) => some (.ex c)
  | some (.ok a δ') => k a δ'
def pureM {α : Type} (a : α) : M α := fun δ => some (.ok a δ)
def liftO {α : Type} : Option α → M α
  | some a => pureM a
  | none => fun _ => none
@[simp] theorem liftO_some {α : Type} (a : α) : liftO (some a) = pureM a := rfl
@[simp] theorem liftO_none {α : Type} : liftO (none : Option α) = fun _ => none := rfl
@[simp] theorem bindM_pure {α β : Type} (a : α) (k : α → M β) : bindM (pureM a) k = k a := rfl
theorem bindM_ok {α β : Type} {m : M α} {k : α → M β} {δ δ' : De} {a : α} (h : m δ = some (.ok a δ')) : bindM m k δ = k a δ' := by unfold bindM; rw [h]
theorem bindM_ex {α β : Type} {m : M α} {k : α → M β} {δ : De} {c : Nat} (h : m δ = some (.ex c)) : bindM m k δ = some (.ex c) := by unfold bindM; rw [h]

section
variable (κ : PySem.W.Frag × Tb) (cl : Nat → Addr) (E : XK) (F : Hp) (σ : L2.St) (G : Hp)
def Post {ν α : Type} (RA : Hp → ν → α → Prop) (Q : ν → Hp → Prop) : R α → Prop
  | .ok a δ' => ∀ G' H' v, S κ F σ G' H' δ' → Same G G' → RA G' v a → Q v H'
  | .ex c => ∀ G' H', Same G G' → Same G' H' → Same F H' → LamX.Tabs κ.2.1 H' → E (.ref (cl c)) none H'
end
def Sp2 (κ : PySem.W.Frag × Tb) (cl : Nat → Addr) (E : XK) {ν α : Type} (RA : Hp → ν → α → Prop) (t : L2.St → Hp → (ν → Hp → Prop) → Prop) (f : M α) : Prop :=
  ∀ F σ G H δ r, S κ F σ G H δ → f δ = some r → ∀ Q, Post κ cl E F σ G RA Q r → t σ H Q
section
variable {K : PySem.W.Frag} {T : Tb} {cl : Nat → Addr} {E : XK}
theorem Post.weak {F : Hp} {σ : L2.St} {G G1 : Hp} {ν α : Type} {RA : Hp → ν → α → Prop} {Q : ν → Hp → Prop} (e : Same G G1) : ∀ {r : R α}, Post (K, T) cl E F σ G RA Q r → Post (K, T) cl E F σ G1 RA Q r
  | .ok _ _, h => fun G' H' v s g => h G' H' v s (e.trans g)
  | .ex _, h => fun G' H' g => h G' H' (e.trans g)
theorem Sp2.bind {ν μ α β : Type} {RA : Hp → ν → α → Prop} {RB : Hp → μ → β → Prop} {ta : L2.St → Hp → (ν → Hp → Prop) → Prop} {fa : M α} (ha : Sp2 (K, T) cl E RA ta fa)
    {k : ν → L2.St → Hp → (μ → Hp → Prop) → Prop} {g : α → M β}
    (hk : ∀ F σ G H δ x a r, S (K, T) F σ G H δ → RA G x a → g a δ = some r → ∀ Q, Post (K, T) cl E F σ G RB Q r → k x σ H Q) :
    Sp2 (K, T) cl E RB (fun σ H Q => ta σ H fun x H1 => k x σ H1 Q) (bindM fa g) := by
  intro F σ G H δ r s e Q p
  unfold bindM at e
  cases h : fa δ with
  | none => rw [h] at e; cases e
  | some ra =>
    rw [h] at e
    refine ha F σ G H δ ra s h _ ?_
    cases ra with
    | ex c =>
      cases e
      exact p
    | ok a δ' =>
      exact fun G' H' v s' g' rv => hk F σ G' H' δ' v a r s' rv e Q (p.weak g')
theorem Sp2.pure {ν α : Type} {RA : Hp → ν → α → Prop} {v : ν} {a : α} (h : ∀ G, RA G v a) : Sp2 (K, T) cl E RA (fun _ H Q => Q v H) (pureM a) := by
  intro F σ G H δ r s e Q p
  cases e
  exact p G H v s (Same.refl _) (h G)
end

/-- a step: the first part, then the rest from where it leaves -/
theorem Sp2.step {K : PySem.W.Frag} {T : Tb} {cl : Nat → Addr} {E : XK} {ν μ α β : Type} {RA : Hp → ν → α → Prop} {RB : Hp → μ → β → Prop} {ta : L2.St → Hp → (ν → Hp → Prop) → Prop} {fa : M α} (ha : Sp2 (K, T) cl E RA ta fa) {F : Hp} {σ : L2.St} {G H : Hp} {δ : De} {g : α → M β} {r : R β} {Q : μ → Hp → Prop} {k : ν → Hp → Prop}
    (s : S (K, T) F σ G H δ) (e : bindM fa g δ = some r) (p : Post (K, T) cl E F σ G RB Q r)
    (hk : ∀ G' H' δ' x a, S (K, T) F σ G' H' δ' → Same G G' → RA G' x a → g a δ' = some r → Post (K, T) cl E F σ G' RB Q r → k x H') : ta σ H k := by
  unfold bindM at e
  cases h : fa δ with
  | none => rw [h] at e; cases e
  | some ra =>
    rw [h] at e
    refine ha F σ G H δ ra s h _ ?_
    cases ra with
    | ex c =>
      cases e
      exact p
    | ok a δ' => exact fun G' H' v s' g' rv => hk G' H' δ' v a s' g' rv e (p.weak g')
theorem liftO_eq {β : Type} {o : Option β} {δ : De} {r : R β} (e : liftO o δ = some r) : ∃ b, o = some b ∧ r = .ok b δ := by
  cases o with
  | none => cases e
  | some b => cases e; exact ⟨b, rfl, rfl⟩

/-! ### contexts -/
structure SC where
  P : Program
  w : World
  K : PySem.W.Frag
  mg : Str → Option Value
  base : Heap
  N : List Str
  sc : Scope
  k : Nat
  cl : Nat → Addr
  E : XK
  st : Str → Bool
  T : Tb
  code : Value
  qual : Str
abbrev SC.κ (c : SC) : PySem.W.Frag × Tb := (c.K, c.T)
structure In (c : SC) (X : Cx) : Prop where
  P : X.prog = c.P
  w : X.w = c.w
  K : X.K = c.K
  mg : X.mg = c.mg
  base : X.base = c.base
  N : X.N = c.N
  sc : X.env.scope = c.sc
  calm : X.calm = true
  room : Room c.k X.A
  tk : c.st "" = true → Takes X (fun cls d _ H => c.E cls d H) ∧ X.stack = X.env :: X.outer ∧ X.env.frame = some X.env.locals
  pa : ∀ σ, PassesAt (L2.CX X.prog X.w) X σ c.E
  fn : ∀ x, c.st x = true → X.fn x = true ∨ X.env.scope.names.lookup x = some .local
  po : c.st "" = true → PassesOwn (model X.prog X.w) X.A X.env X.xe
  code : c.code = .none ∨ (X.env.code = c.code ∧ X.env.qual = c.qual)

structure FE (c : SC) (e : Expr) (f : M D) : Prop where
  ex : ∃ t, (∀ X, In c X → PE X e t) ∧ Sp2 c.κ c.cl c.E (Rep c.K) t f
structure FA (c : SC) (es : List Expr) (f : M (List D)) : Prop where
  ex : ∃ t, (∀ X, In c X → PA X es t) ∧ Sp2 c.κ c.cl c.E (RepL c.K) t f
def RepB (_ : Hp) (b b' : Bool) : Prop := b = b'
structure FT (c : SC) (e : Expr) (f : M Bool) : Prop where
  ex : ∃ t, (∀ X, In c X → PT X e t) ∧ Sp2 c.κ c.cl c.E RepB t f
structure FW (c : SC) (e : Expr) (f : M Bool) : Prop where
  ex : ∃ t, (∀ X, In c X → PW X e t) ∧ Sp2 c.κ c.cl c.E RepB t f

section
variable {c : SC}
/-! ### names, constants -/
def varM (i : Nat) : M D := fun δ => match δ[i]? with
  | some (.val d) => some (.ok d δ)
  | _ => none
theorem fe_var (i : Nat) {x : Str} {pos : Pos} (hN : c.N[i]? = some x := by rfl) (hv : Vis c.sc x := by first | exact Or.inl rfl | exact Or.inr (Or.inl rfl) | exact Or.inr (Or.inr rfl)) (hd : (x == ("__debug__" : Str)) = false := by decide)
    (hcd : (x == ("__classdict__" : Str)) = false := by decide) : FE c (.Name x pos) (varM i) := by
  refine ⟨tVar i, fun X h => pe_var (by rw [h.N]; exact hN) (by rw [h.sc]; exact hv) hd hcd, fun F σ G H δ r s e Q p => ?_⟩
  unfold varM at e
  split at e
  · rename_i d hd
    cases e
    obtain ⟨v, h1, h2⟩ := s.val i d hd
    exact ⟨v, h1, p G H v s (Same.refl _) h2⟩
  · cases e
theorem fe_int {i : Int} {j pos} : FE c (.Constant (.int i) j pos) (pureM (.int i)) := ⟨_, fun _ _ => pe_int, Sp2.pure fun _ => .int i⟩
theorem fe_bl {b : Bool} {j pos} : FE c (.Constant (.bool b) j pos) (pureM (.bl b)) := ⟨_, fun _ _ => pe_bl, Sp2.pure fun _ => .bl b⟩
theorem fe_non {j pos} : FE c (.Constant .none j pos) (pureM .non) := ⟨_, fun _ _ => pe_non, Sp2.pure fun _ => .non⟩
theorem fe_str {x : Str} {j pos} : FE c (.Constant (.str x) j pos) (pureM (.str x)) := ⟨_, fun _ _ => pe_str, Sp2.pure fun _ => .str x⟩
/-- a module's constant -/
structure Const (K : PySem.W.Frag) (mg : Str → Option Value) (x : Str) (d : D) : Prop where
  ex : ∃ v u, mg x = some u ∧ RelV v u ∧ ∀ G, Rep K G v d
theorem fe_const {x : Str} {d : D} {pos : Pos} (h : Const c.K c.mg x d) (hg : c.sc.names.lookup x = some .globalImplicit := by rfl) (hd : (x == ("__debug__" : Str)) = false := by decide) : FE c (.Name x pos) (pureM d) := by
  obtain ⟨v, u, hm, r, hr⟩ := h.ex
  exact ⟨_, fun X h => pe_glob (show X.env.scope.names.lookup x = _ by rw [h.sc]; exact hg) (by rw [h.mg]; exact hm) r hd, Sp2.pure hr⟩

/-! ### operators -/
structure Op2 (K : PySem.W.Frag) (r : R2) (g : D → D → Option D) : Prop where
  run : ∀ T F σ G H δ v u a b d, S (K, T) F σ G H δ → Rep K G v a → Rep K G u b → g a b = some d → ∀ Q : VK, (∀ G' H' w, S (K, T) F σ G' H' δ → Same G G' → Rep K G' w d → Q w H') → r v u H Q
def bin2 (g : D → D → Option D) (fa fb : M D) : M D := bindM fa fun x => bindM fb fun y => liftO (g x y)
theorem Sp2.op2 {K : PySem.W.Frag} {T : Tb} {cl : Nat → Addr} {E : XK} {r : R2} {g : D → D → Option D} {ta tb : TE} {fa fb : M D} (hr : Op2 K r g) (ha : Sp2 (K, T) cl E (Rep K) ta fa) (hb : Sp2 (K, T) cl E (Rep K) tb fb) : Sp2 (K, T) cl E (Rep K) (tOp r ta tb) (bin2 g fa fb) := by
  intro F σ G H δ r s e Q p
  refine ha.step s e p fun G1 H1 δ1 x a s1 g1 rx e1 p1 => ?_
  refine hb.step s1 e1 p1 fun G2 H2 δ2 y b s2 g2 ry e2 p2 => ?_
  obtain ⟨d, hd, rfl⟩ := liftO_eq e2
  exact hr.run _ F σ G2 H2 δ2 x y a b d s2 (rx.mono g2) ry hd Q fun G' H' w s' g' rw' => p2 G' H' w s' g' rw'
theorem Op2.or {K : PySem.W.Frag} {r r' : R2} {g g' : D → D → Option D} (h : Op2 K r g) (h' : Op2 K r' g') : Op2 K (fun x y H Q => r x y H Q ∨ r' x y H Q) (fun a b => (g a b).or (g' a b)) := by
  refine ⟨fun T F σ G H δ v u a b d s rv ru e Q q => ?_⟩
  cases h1 : g a b with
  | some d' =>
    rw [h1, Option.some_or] at e
    cases e
    exact .inl (h.run _ F σ G H δ v u a b _ s rv ru h1 Q q)
  | none =>
    rw [h1, Option.none_or] at e
    exact .inr (h'.run _ F σ G H δ v u a b _ s rv ru e Q q)
theorem Op2.imp {K : PySem.W.Frag} {r : R2} {g g' : D → D → Option D} (h : Op2 K r g) (i : ∀ a b d, g' a b = some d → g a b = some d) : Op2 K r g' :=
  ⟨fun T F σ G H δ v u a b d s rv ru e Q q => h.run _ F σ G H δ v u a b d s rv ru (i _ _ _ e) Q q⟩
def int2 (gd : Int → Int → D) : D → D → Option D
  | .int i, .int j => some (gd i j)
  | _, _ => none
def int2C (C : Int → Int → Prop) [∀ i j, Decidable (C i j)] (gd : Int → Int → D) : D → D → Option D
  | .int i, .int j => if C i j then some (gd i j) else none
  | _, _ => none
theorem op2_I0 {K : PySem.W.Frag} {g : Int → Int → V} {gd : Int → Int → D} (h : ∀ i j G, Rep K G (g i j) (gd i j)) : Op2 K (rI0 g) (int2 gd) := by
  refine ⟨fun T F σ G H δ v u a b d s rv ru e Q q => ?_⟩
  unfold int2 at e
  split at e
  · cases e
    cases rv
    cases ru
    exact ⟨_, _, rfl, rfl, q G H _ s (Same.refl _) (h _ _ _)⟩
  · cases e
theorem op2_I {K : PySem.W.Frag} {C : Int → Int → Prop} [∀ i j, Decidable (C i j)] {g : Int → Int → V} {gd : Int → Int → D} (h : ∀ i j G, Rep K G (g i j) (gd i j)) : Op2 K (rI C g) (int2C C gd) := by
  refine ⟨fun T F σ G H δ v u a b d s rv ru e Q q => ?_⟩
  unfold int2C at e
  split at e
  · split at e
    · rename_i hC
      cases e
      cases rv
      cases ru
      exact ⟨_, _, rfl, rfl, hC, q G H _ s (Same.refl _) (h _ _ _)⟩
    · cases e
  · cases e
instance (i j : Int) : Decidable (CMul i j) := by unfold CMul; infer_instance
instance (i j : Int) : Decidable (CDivN i j) := by unfold CDivN; infer_instance
instance (i j : Int) : Decidable (CPow i j) := by unfold CPow; infer_instance
theorem fe_op {op : Operator} {r : R2} {g : D → D → Option D} {a b : Expr} {fa fb : M D} {pos : Pos} (ho : ∀ X, In c X → OpR X (binaryOp op) r) (hr : Op2 c.K r g) (ha : FE c a fa) (hb : FE c b fb) : FE c (.BinOp a op b pos) (bin2 g fa fb) := by
  obtain ⟨ta, pa, sa⟩ := ha.ex
  obtain ⟨tb, pb, sb⟩ := hb.ex
  exact ⟨_, fun X h => pe_op (ho X h) (pa X h) (pb X h), Sp2.op2 hr sa sb⟩
def subD := int2 fun i j => .int (i - j)
def mulD := int2C CMul fun i j => .int (i * j)
def fdivD := int2C CDivN fun i j => .int (i.fdiv j)
def modD := int2C (fun _ j => 0 < j) fun i j => .int (i % j)
def powD := int2C CPow fun i j => .int (i ^ j.toNat)
theorem fe_sub {a b : Expr} {fa fb : M D} {pos : Pos} (ha : FE c a fa) (hb : FE c b fb) : FE c (.BinOp a .Sub b pos) (bin2 subD fa fb) := fe_op (fun _ _ => op_sub) (op2_I0 fun _ _ _ => .int _) ha hb
theorem fe_mul {a b : Expr} {fa fb : M D} {pos : Pos} (ha : FE c a fa) (hb : FE c b fb) : FE c (.BinOp a .Mult b pos) (bin2 mulD fa fb) := fe_op (fun _ _ => op_mul) (op2_I fun _ _ _ => .int _) ha hb
theorem fe_fdiv {a b : Expr} {fa fb : M D} {pos : Pos} (ha : FE c a fa) (hb : FE c b fb) : FE c (.BinOp a .FloorDiv b pos) (bin2 fdivD fa fb) := fe_op (fun _ _ => op_fdivN) (op2_I fun _ _ _ => .int _) ha hb
theorem fe_mod {a b : Expr} {fa fb : M D} {pos : Pos} (ha : FE c a fa) (hb : FE c b fb) : FE c (.BinOp a .Mod b pos) (bin2 modD fa fb) := fe_op (fun _ _ => op_mod) (op2_I fun _ _ _ => .int _) ha hb
theorem fe_pow {a b : Expr} {fa fb : M D} {pos : Pos} (ha : FE c a fa) (hb : FE c b fb) : FE c (.BinOp a .Pow b pos) (bin2 powD fa fb) := fe_op (fun _ _ => op_pow) (op2_I fun _ _ _ => .int _) ha hb
/-- + of ints, texts, lists -/
def strAdd : D → D → Option D
  | .str x, .str y => if x.length + y.length ≤ sizeLine then some (.str (x ++ y)) else none
  | _, _ => none
theorem op2_strAdd {K : PySem.W.Frag} : Op2 K (fun x y H Q => ∃ i j, x = V.str i ∧ y = V.str j ∧ i.length + j.length ≤ sizeLine ∧ Q (.str (i ++ j)) H) strAdd := by
  refine ⟨fun T F σ G H δ v u a b d s rv ru e Q q => ?_⟩
  unfold strAdd at e
  split at e
  · split at e
    · rename_i hC
      cases e
      cases rv
      cases ru
      exact ⟨_, _, rfl, rfl, hC, q G H _ s (Same.refl _) (.str _)⟩
    · cases e
  · cases e
def lstAdd : D → D → Option D
  | .lst x, .lst y => if x.length + y.length ≤ 1000000 then some (.lst (x ++ y)) else none
  | _, _ => none
theorem small6 {n : Nat} (h : n ≤ 1000000) : n ≤ sizeLine := by rw [sizeLine_eq]; omega
theorem op2_cat {K : PySem.W.Frag} : Op2 K rCat lstAdd := by
  refine ⟨fun T F σ G H δ v u a b d s rv ru e Q q => ?_⟩
  unfold lstAdd at e
  split at e
  · split at e
    · rename_i hC
      cases e
      cases rv with
      | lst h1 r1 =>
        cases ru with
        | lst h2 r2 =>
          refine ⟨_, _, _, _, rfl, rfl, s.sub _ _ h1, s.sub _ _ h2, by rw [r1.length, r2.length]; exact small6 hC, fun p hp => ?_⟩
          have gp := s.sub.free hp
          exact q _ _ _ (s.new hp) (same_upd gp) (.lst upd_same ((r1.mono (same_upd gp)).append (r2.mono (same_upd gp))))
    · cases e
  · cases e
def addD (a b : D) : Option D := (int2 (fun i j => .int (i + j)) a b).or ((strAdd a b).or (lstAdd a b))
theorem fe_add {a b : Expr} {fa fb : M D} {pos : Pos} (ha : FE c a fa) (hb : FE c b fb) : FE c (.BinOp a .Add b pos) (bin2 addD fa fb) :=
  fe_op (fun _ _ => op_add.or (op_add_str.or op_cat)) ((op2_I0 fun _ _ _ => .int _).or (op2_strAdd.or op2_cat)) ha hb
/-! unary minus -/
def negD : D → Option D
  | .int i => some (.int (-i))
  | _ => none
def un1 (g : D → Option D) (fa : M D) : M D := bindM fa fun x => liftO (g x)
theorem fe_neg {a : Expr} {fa : M D} {pos : Pos} (ha : FE c a fa) : FE c (.UnaryOp .USub a pos) (un1 negD fa) := by
  obtain ⟨ta, pa, sa⟩ := ha.ex
  refine ⟨_, fun X h => pe_un un_neg (pa X h), fun F σ G H δ r s e Q p => ?_⟩
  refine sa.step s e p fun G1 H1 δ1 x a s1 g1 rx e1 p1 => ?_
  obtain ⟨d, hd, rfl⟩ := liftO_eq e1
  cases a <;> cases hd
  cases rx
  exact ⟨_, rfl, p1 G1 H1 _ s1 (Same.refl _) (.int _)⟩

/-! ### comparisons -/
mutual
def toPy : D → Option PyData
  | .non => some .none
  | .bl b => some (.bool b)
  | .int i => some (.int i)
  | .str s => some (.str s)
  | .lst xs => (toPyL xs).map .list
  | .tup xs => (toPyL xs).map .tuple
  | .ins _ _ => none
  | .fn _ => none
def toPyL : List D → Option (List PyData)
  | [] => some []
  | x :: xs => match toPy x, toPyL xs with
    | some a, some b => some (a :: b)
    | _, _ => none
end
mutual
theorem Rep.dp {K : PySem.W.Frag} {G : Hp} : ∀ {d : D} {v : V} {p : PyData}, Rep K G v d → toPy d = some p → Dp K G v p
  | .non, _, _, h, e => by cases h; cases e; exact .non
  | .bl b, _, _, h, e => by cases h; cases e; exact .bl b
  | .int i, _, _, h, e => by cases h; cases e; exact .int i
  | .str x, _, _, h, e => by cases h; cases e; exact .str x
  | .lst xs, _, _, h, e => by
    cases h with
    | lst h1 h2 =>
      rw [toPy] at e
      cases q : toPyL xs with
      | none => rw [q] at e; cases e
      | some ps => rw [q] at e; cases e; exact .lst (.of h1) (RepL.dp h2 q)
  | .tup xs, _, _, h, e => by
    cases h with
    | tup h1 h2 =>
      rw [toPy] at e
      cases q : toPyL xs with
      | none => rw [q] at e; cases e
      | some ps => rw [q] at e; cases e; exact .tup h1 (RepL.dp h2 q)
  | .ins _ _, _, _, _, e => by cases e
  | .fn _, _, _, _, e => by cases e
theorem RepL.dp {K : PySem.W.Frag} {G : Hp} : ∀ {ds : List D} {vs : List V} {ps : List PyData}, RepL K G vs ds → toPyL ds = some ps → DpAll K G vs ps
  | [], _, _, h, e => by cases h; cases e; exact .nil
  | d :: ds, _, _, h, e => by
    cases h with
    | cons h1 h2 =>
      rw [toPyL] at e
      split at e
      · rename_i a b q1 q2
        cases e
        exact .cons (Rep.dp h1 q1) (RepL.dp h2 q2)
      · cases e
end
mutual
theorem dp_mono {K : PySem.W.Frag} {G G' : Hp} (e : Same G G') : ∀ {v : V} {d : PyData}, Dp K G v d → Dp K G' v d
  | _, _, .non => .non
  | _, _, .bl b => .bl b
  | _, _, .int i => .int i
  | _, _, .str x => .str x
  | _, _, .lst h r => .lst (e.seq h) (dpAll_mono e r)
  | _, _, .tup h r => .tup (seqT e h) (dpAll_mono e r)
theorem dpAll_mono {K : PySem.W.Frag} {G G' : Hp} (e : Same G G') : ∀ {v : List V} {d : List PyData}, DpAll K G v d → DpAll K G' v d
  | _, _, .nil => .nil
  | _, _, .cons h r => .cons (dp_mono e h) (dpAll_mono e r)
end
/-- == by value; none where it is not served -/
def eqB (a b : D) : Option Bool := match toPy a, toPy b with
  | some p, some q => if SeqAt.shaped p && SeqAt.shaped q then some (PyData.eqv p q) else none
  | _, _ => none
def eqD (a b : D) : Option D := (eqB a b).map .bl
def neD (a b : D) : Option D := (eqB a b).map fun k => .bl (!k)
theorem eqB_some {a b : D} {k : Bool} (h : eqB a b = some k) : ∃ p q, toPy a = some p ∧ toPy b = some q ∧ SeqAt.shaped p = true ∧ SeqAt.shaped q = true ∧ PyData.eqv p q = k := by
  unfold eqB at h
  split at h
  · rename_i p q h1 h2
    split at h
    · rename_i h3
      cases h
      rw [Bool.and_eq_true] at h3
      exact ⟨p, q, h1, h2, h3.1, h3.2, rfl⟩
    · cases h
  · cases h
theorem op2_eq {K : PySem.W.Frag} : Op2 K (rEqD K) eqD := by
  refine ⟨fun T F σ G H δ v u a b d s rv ru e Q q => ?_⟩
  unfold eqD at e
  cases h : eqB a b with
  | none => rw [h] at e; cases e
  | some k =>
    rw [h] at e
    cases e
    obtain ⟨p, p', h1, h2, h3, h4, h5⟩ := eqB_some h
    exact ⟨p, p', dp_mono s.sub (rv.dp h1), dp_mono s.sub (ru.dp h2), h3, h4, q G H _ s (Same.refl _) (h5 ▸ .bl _)⟩
theorem op2_ne {K : PySem.W.Frag} : Op2 K (rNeD K) neD := by
  refine ⟨fun T F σ G H δ v u a b d s rv ru e Q q => ?_⟩
  unfold neD at e
  cases h : eqB a b with
  | none => rw [h] at e; cases e
  | some k =>
    rw [h] at e
    cases e
    obtain ⟨p, p', h1, h2, h3, h4, h5⟩ := eqB_some h
    exact ⟨p, p', dp_mono s.sub (rv.dp h1), dp_mono s.sub (ru.dp h2), h3, h4, q G H _ s (Same.refl _) (h5 ▸ .bl _)⟩
def ltD := int2 fun i j => .bl (decide (i < j))
def leD := int2 fun i j => .bl (decide (i ≤ j))
def gtD := int2 fun i j => .bl (decide (j < i))
def geD := int2 fun i j => .bl (decide (j ≤ i))
def isN (neg : Bool) : D → D → Option D
  | .non, .non => some (.bl (!neg))
  | _, .non => some (.bl neg)
  | _, _ => none
theorem op2_isN {K : PySem.W.Frag} : Op2 K (fun x y H Q => y = V.non ∧ Q (.bl (decide (x = .non))) H) (isN false) := by
  refine ⟨fun T F σ G H δ v u a b d s rv ru e Q q => ?_⟩
  unfold isN at e
  split at e
  · cases e; cases rv; cases ru; exact ⟨rfl, q G H _ s (Same.refl _) (.bl _)⟩
  · rename_i hn
    cases e; cases ru
    refine ⟨rfl, q G H _ s (Same.refl _) ?_⟩
    have : v ≠ V.non := by rintro rfl; cases rv; exact hn rfl
    rw [decide_eq_false this]
    exact .bl _
  · cases e
theorem op2_notN {K : PySem.W.Frag} : Op2 K (fun x y H Q => y = V.non ∧ Q (.bl (!decide (x = .non))) H) (isN true) := by
  refine ⟨fun T F σ G H δ v u a b d s rv ru e Q q => ?_⟩
  unfold isN at e
  split at e
  · cases e; cases rv; cases ru; exact ⟨rfl, q G H _ s (Same.refl _) (.bl _)⟩
  · rename_i hn
    cases e; cases ru
    refine ⟨rfl, q G H _ s (Same.refl _) ?_⟩
    have : v ≠ V.non := by rintro rfl; cases rv; exact hn rfl
    rw [decide_eq_false this]
    exact .bl _
  · cases e
/-- in of flat values -/
def flatOf : D → Option V
  | .non => some .non
  | .bl b => some (.bl b)
  | .int i => some (.int i)
  | .str x => some (.str x)
  | _ => none
theorem Rep.flat {K : PySem.W.Frag} {G : Hp} {v w : V} {d : D} (r : Rep K G v d) (h : flatOf d = some w) : v = w ∧ flatV w = true := by
  cases d <;> simp only [flatOf, Option.some.injEq, reduceCtorEq] at h
  all_goals (subst h; cases r; exact ⟨rfl, rfl⟩)
def flatL : List D → Option (List V)
  | [] => some []
  | x :: xs => match flatOf x, flatL xs with
    | some a, some b => some (a :: b)
    | _, _ => none
theorem RepL.flat {K : PySem.W.Frag} {G : Hp} : ∀ {vs ws : List V} {ds : List D}, RepL K G vs ds → flatL ds = some ws → vs = ws ∧ ws.all flatV = true
  | _, _, [], .nil, e => by cases e; exact ⟨rfl, rfl⟩
  | _, _, d :: ds, .cons h t, e => by
    rw [flatL] at e
    split at e
    · rename_i a b q1 q2
      cases e
      obtain ⟨rfl, h1⟩ := h.flat q1
      obtain ⟨rfl, h2⟩ := RepL.flat t q2
      exact ⟨rfl, by simp only [List.all_cons, h1, h2, Bool.and_self]⟩
    · cases e
def inB (a b : D) : Option Bool := match flatOf a with
  | none => none
  | some x => match b with
    | .lst ds => (flatL ds).map fun ws => inV x ws
    | .tup ds => (flatL ds).map fun ws => inV x ws
    | _ => none
def inD (neg : Bool) (a b : D) : Option D := (inB a b).map fun k => .bl (if neg then !k else k)
theorem op2_in {K : PySem.W.Frag} (neg : Bool) : Op2 K (rIn K neg) (inD neg) := by
  refine ⟨fun T F σ G H δ v u a b d s rv ru e Q q => ?_⟩
  unfold inD at e
  cases h : inB a b with
  | none => rw [h] at e; cases e
  | some k =>
    rw [h] at e
    cases e
    unfold inB at h
    cases h1 : flatOf a with
    | none => rw [h1] at h; cases h
    | some x =>
      rw [h1] at h
      obtain ⟨rfl, f1⟩ := rv.flat h1
      cases b with
      | lst ds =>
        dsimp only at h
        cases h2 : flatL ds with
        | none => rw [h2] at h; cases h
        | some ws =>
          rw [h2] at h
          cases h
          cases ru with
          | lst g1 r1 =>
            obtain ⟨rfl, f2⟩ := r1.flat h2
            exact ⟨_, _, rfl, .inl (.of (s.sub _ _ g1)), f1, f2, q G H _ s (Same.refl _) (.bl _)⟩
      | tup ds =>
        dsimp only at h
        cases h2 : flatL ds with
        | none => rw [h2] at h; cases h
        | some ws =>
          rw [h2] at h
          cases h
          cases ru with
          | tup g1 r1 =>
            obtain ⟨rfl, f2⟩ := r1.flat h2
            exact ⟨_, _, rfl, .inr (seqT s.sub g1), f1, f2, q G H _ s (Same.refl _) (.bl _)⟩
      | _ => cases h
theorem fe_cmp {op : CmpOp} {r : R2} {g : D → D → Option D} {a b : Expr} {fa fb : M D} {pos : Pos} (ho : ∀ X, In c X → OpR X (compareOp op) r) (hr : Op2 c.K r g) (ha : FE c a fa) (hb : FE c b fb) (hm : behindInMarks op b = false) : FE c (.Compare a [op] [b] pos) (bin2 g fa fb) := by
  obtain ⟨ta, pa, sa⟩ := ha.ex
  obtain ⟨tb, pb, sb⟩ := hb.ex
  exact ⟨_, fun X h => pe_cmpR (ho X h) (pa X h) (pb X h) hm, Sp2.op2 hr sa sb⟩
def toB : D → Option Bool
  | .bl b => some b
  | _ => none
theorem ft_cmp {op : CmpOp} {r : R2} {g : D → D → Option D} {a b : Expr} {fa fb : M D} {pos : Pos} (ho : ∀ X, In c X → OpR X (compareOp op) r) (hr : Op2 c.K r g) (ha : FE c a fa) (hb : FE c b fb) (hm : behindInMarks op b = false) : FT c (.Compare a [op] [b] pos) (bindM (bin2 g fa fb) fun d => liftO (toB d)) := by
  obtain ⟨ta, pa, sa⟩ := ha.ex
  obtain ⟨tb, pb, sb⟩ := hb.ex
  refine ⟨_, fun X h => pt_cmpR (ho X h) (pa X h) (pb X h) hm, fun F σ G H δ r s e Q p => ?_⟩
  refine (Sp2.op2 hr sa sb).step s e p fun G1 H1 δ1 x d s1 g1 rx e1 p1 => ?_
  obtain ⟨k, hk, rfl⟩ := liftO_eq e1
  cases d <;> cases hk
  cases rx
  exact ⟨_, rfl, p1 G1 H1 _ s1 (Same.refl _) rfl⟩
theorem In.units {c : SC} {X : Cx} (h : In c X) : X.A.units + 64 < cLine := h.room.units
section
variable {a b d : Expr} {fa fb fd : M D} {pos : Pos}
theorem fe_eq (ha : FE c a fa) (hb : FE c b fb) : FE c (.Compare a [.Eq] [b] pos) (bin2 eqD fa fb) := fe_cmp (fun X h => by have := op_eqD (X := X) h.units; rwa [h.K] at this) op2_eq ha hb (nomark _)
theorem fe_ne (ha : FE c a fa) (hb : FE c b fb) : FE c (.Compare a [.NotEq] [b] pos) (bin2 neD fa fb) := fe_cmp (fun X h => by have := op_neD (X := X) h.units; rwa [h.K] at this) op2_ne ha hb (nomark _)
theorem fe_lt (ha : FE c a fa) (hb : FE c b fb) : FE c (.Compare a [.Lt] [b] pos) (bin2 ltD fa fb) := fe_cmp (fun X h => op_lt) (op2_I0 fun _ _ _ => .bl _) ha hb (nomark _)
theorem fe_le (ha : FE c a fa) (hb : FE c b fb) : FE c (.Compare a [.LtE] [b] pos) (bin2 leD fa fb) := fe_cmp (fun X h => op_le) (op2_I0 fun _ _ _ => .bl _) ha hb (nomark _)
theorem fe_gt (ha : FE c a fa) (hb : FE c b fb) : FE c (.Compare a [.Gt] [b] pos) (bin2 gtD fa fb) := fe_cmp (fun X h => op_gt) (op2_I0 fun _ _ _ => .bl _) ha hb (nomark _)
theorem fe_ge (ha : FE c a fa) (hb : FE c b fb) : FE c (.Compare a [.GtE] [b] pos) (bin2 geD fa fb) := fe_cmp (fun X h => op_ge) (op2_I0 fun _ _ _ => .bl _) ha hb (nomark _)
theorem fe_is (ha : FE c a fa) (hb : FE c b fb) : FE c (.Compare a [.Is] [b] pos) (bin2 (isN false) fa fb) := fe_cmp (fun X h => op_isN) op2_isN ha hb (nomark _)
theorem fe_isnot (ha : FE c a fa) (hb : FE c b fb) : FE c (.Compare a [.IsNot] [b] pos) (bin2 (isN true) fa fb) := fe_cmp (fun X h => op_notN) op2_notN ha hb (nomark _)
theorem fe_in (ha : FE c a fa) (hb : FE c b fb) (hm : behindInMarks .In b = false := by rfl) : FE c (.Compare a [.In] [b] pos) (bin2 (inD false) fa fb) := fe_cmp (fun X h => by have := op_in_seq (X := X); rwa [h.K] at this) (op2_in false) ha hb hm
theorem fe_notin (ha : FE c a fa) (hb : FE c b fb) (hm : behindInMarks .NotIn b = false := by rfl) : FE c (.Compare a [.NotIn] [b] pos) (bin2 (inD true) fa fb) := fe_cmp (fun X h => by have := op_notIn_seq (X := X); rwa [h.K] at this) (op2_in true) ha hb hm
def tst (f : M D) : M Bool := bindM f fun d => liftO (toB d)
theorem ft_eq (ha : FE c a fa) (hb : FE c b fb) : FT c (.Compare a [.Eq] [b] pos) (tst (bin2 eqD fa fb)) := ft_cmp (fun X h => by have := op_eqD (X := X) h.units; rwa [h.K] at this) op2_eq ha hb (nomark _)
theorem ft_ne (ha : FE c a fa) (hb : FE c b fb) : FT c (.Compare a [.NotEq] [b] pos) (tst (bin2 neD fa fb)) := ft_cmp (fun X h => by have := op_neD (X := X) h.units; rwa [h.K] at this) op2_ne ha hb (nomark _)
theorem ft_lt (ha : FE c a fa) (hb : FE c b fb) : FT c (.Compare a [.Lt] [b] pos) (tst (bin2 ltD fa fb)) := ft_cmp (fun X h => op_lt) (op2_I0 fun _ _ _ => .bl _) ha hb (nomark _)
theorem ft_le (ha : FE c a fa) (hb : FE c b fb) : FT c (.Compare a [.LtE] [b] pos) (tst (bin2 leD fa fb)) := ft_cmp (fun X h => op_le) (op2_I0 fun _ _ _ => .bl _) ha hb (nomark _)
theorem ft_gt (ha : FE c a fa) (hb : FE c b fb) : FT c (.Compare a [.Gt] [b] pos) (tst (bin2 gtD fa fb)) := ft_cmp (fun X h => op_gt) (op2_I0 fun _ _ _ => .bl _) ha hb (nomark _)
theorem ft_ge (ha : FE c a fa) (hb : FE c b fb) : FT c (.Compare a [.GtE] [b] pos) (tst (bin2 geD fa fb)) := ft_cmp (fun X h => op_ge) (op2_I0 fun _ _ _ => .bl _) ha hb (nomark _)
theorem ft_is (ha : FE c a fa) (hb : FE c b fb) : FT c (.Compare a [.Is] [b] pos) (tst (bin2 (isN false) fa fb)) := ft_cmp (fun X h => op_isN) op2_isN ha hb (nomark _)
theorem ft_isnot (ha : FE c a fa) (hb : FE c b fb) : FT c (.Compare a [.IsNot] [b] pos) (tst (bin2 (isN true) fa fb)) := ft_cmp (fun X h => op_notN) op2_notN ha hb (nomark _)
theorem ft_in (ha : FE c a fa) (hb : FE c b fb) (hm : behindInMarks .In b = false := by rfl) : FT c (.Compare a [.In] [b] pos) (tst (bin2 (inD false) fa fb)) := ft_cmp (fun X h => by have := op_in_seq (X := X); rwa [h.K] at this) (op2_in false) ha hb hm
theorem ft_notin (ha : FE c a fa) (hb : FE c b fb) (hm : behindInMarks .NotIn b = false := by rfl) : FT c (.Compare a [.NotIn] [b] pos) (tst (bin2 (inD true) fa fb)) := ft_cmp (fun X h => by have := op_notIn_seq (X := X); rwa [h.K] at this) (op2_in true) ha hb hm
/-- a < b < c -/
def chainM (g g' : D → D → Option D) (fa fb fc : M D) : M D := bindM fa fun x => bindM fb fun y => bindM (liftO (g x y)) fun z => bindM (liftO (toB z)) fun k => if k then bindM fc fun w => liftO (g' y w) else pureM (.bl false)
theorem Sp2.chain {K : PySem.W.Frag} {T : Tb} {cl : Nat → Addr} {E : XK} {r r' : R2} {g g' : D → D → Option D} {ta tb tc : TE} {fa fb fc : M D} (hr : Op2 K r g) (hr' : Op2 K r' g') (ha : Sp2 (K, T) cl E (Rep K) ta fa) (hb : Sp2 (K, T) cl E (Rep K) tb fb) (hc : Sp2 (K, T) cl E (Rep K) tc fc) :
    Sp2 (K, T) cl E (Rep K) (tChain r r' ta tb tc) (chainM g g' fa fb fc) := by
  intro F σ G H δ r s e Q p
  refine ha.step s e p fun G1 H1 δ1 x a s1 g1 rx e1 p1 => ?_
  refine hb.step s1 e1 p1 fun G2 H2 δ2 y b s2 g2 ry e2 p2 => ?_
  cases h1 : g a b with
  | none => rw [h1] at e2; cases e2
  | some z =>
    rw [h1, liftO_some, bindM_pure] at e2
    refine hr.run _ F σ G2 H2 δ2 x y a b z s2 (rx.mono g2) ry h1 _ fun G3 H3 w s3 g3 rw3 => ?_
    cases z <;> try (cases e2)
    rename_i k
    cases rw3
    refine ⟨k, rfl, ?_⟩
    rw [show toB (.bl k) = some k from rfl, liftO_some, bindM_pure] at e2
    cases k with
    | false =>
      rw [if_neg Bool.false_ne_true]
      rw [if_neg Bool.false_ne_true] at e2
      cases e2
      exact p2 G3 H3 _ s3 g3 (.bl _)
    | true =>
      rw [if_pos rfl]
      rw [if_pos rfl] at e2
      refine hc.step s3 e2 (p2.weak g3) fun G4 H4 δ4 w' d s4 g4 rd e4 p4 => ?_
      obtain ⟨d', hd', rfl⟩ := liftO_eq e4
      exact hr'.run _ F σ G4 H4 δ4 y w' b d d' s4 (ry.mono (g3.trans g4)) rd hd' Q fun G' H' w s' g' rw' => p4 G' H' w s' g' rw'
theorem fe_chain {op op' : CmpOp} {r r' : R2} {g g' : D → D → Option D} (ho : ∀ X, In c X → OpR X (compareOp op) r) (ho' : ∀ X, In c X → OpR X (compareOp op') r') (hr : Op2 c.K r g) (hr' : Op2 c.K r' g') (ha : FE c a fa) (hb : FE c b fb) (hd : FE c d fd)
    (hm : lastMarks [op, op'] [b, d] = false) : FE c (.Compare a [op, op'] [b, d] pos) (chainM g g' fa fb fd) := by
  obtain ⟨ta, pa, sa⟩ := ha.ex
  obtain ⟨tb, pb, sb⟩ := hb.ex
  obtain ⟨td, pd, sd⟩ := hd.ex
  exact ⟨_, fun X h => pe_chain (ho X h) (ho' X h) (pa X h) (pb X h) (pd X h) hm, Sp2.chain hr hr' sa sb sd⟩
theorem ft_chain {op op' : CmpOp} {r r' : R2} {g g' : D → D → Option D} (ho : ∀ X, In c X → OpR X (compareOp op) r) (ho' : ∀ X, In c X → OpR X (compareOp op') r') (hr : Op2 c.K r g) (hr' : Op2 c.K r' g') (ha : FE c a fa) (hb : FE c b fb) (hd : FE c d fd)
    (hm : lastMarks [op, op'] [b, d] = false) : FT c (.Compare a [op, op'] [b, d] pos) (tst (chainM g g' fa fb fd)) := by
  obtain ⟨ta, pa, sa⟩ := ha.ex
  obtain ⟨tb, pb, sb⟩ := hb.ex
  obtain ⟨td, pd, sd⟩ := hd.ex
  refine ⟨_, fun X h => pt_chain (ho X h) (ho' X h) (pa X h) (pb X h) (pd X h) hm, fun F σ G H δ r s e Q p => ?_⟩
  refine (Sp2.chain hr hr' sa sb sd).step s e p fun G1 H1 δ1 x d s1 g1 rx e1 p1 => ?_
  obtain ⟨k, hk, rfl⟩ := liftO_eq e1
  cases d <;> cases hk
  cases rx
  exact ⟨_, rfl, p1 G1 H1 _ s1 (Same.refl _) rfl⟩
theorem fe_lele (ha : FE c a fa) (hb : FE c b fb) (hd : FE c d fd) (hm : lastMarks [.LtE, .LtE] [b, d] = false := by with_unfolding_all rfl) : FE c (.Compare a [.LtE, .LtE] [b, d] pos) (chainM leD leD fa fb fd) := fe_chain (fun _ _ => op_le) (fun _ _ => op_le) (op2_I0 fun _ _ _ => .bl _) (op2_I0 fun _ _ _ => .bl _) ha hb hd hm
theorem ft_lele (ha : FE c a fa) (hb : FE c b fb) (hd : FE c d fd) (hm : lastMarks [.LtE, .LtE] [b, d] = false := by with_unfolding_all rfl) : FT c (.Compare a [.LtE, .LtE] [b, d] pos) (tst (chainM leD leD fa fb fd)) := ft_chain (fun _ _ => op_le) (fun _ _ => op_le) (op2_I0 fun _ _ _ => .bl _) (op2_I0 fun _ _ _ => .bl _) ha hb hd hm
theorem fe_lelt (ha : FE c a fa) (hb : FE c b fb) (hd : FE c d fd) (hm : lastMarks [.LtE, .Lt] [b, d] = false := by with_unfolding_all rfl) : FE c (.Compare a [.LtE, .Lt] [b, d] pos) (chainM leD ltD fa fb fd) := fe_chain (fun _ _ => op_le) (fun _ _ => op_lt) (op2_I0 fun _ _ _ => .bl _) (op2_I0 fun _ _ _ => .bl _) ha hb hd hm
theorem ft_lelt (ha : FE c a fa) (hb : FE c b fb) (hd : FE c d fd) (hm : lastMarks [.LtE, .Lt] [b, d] = false := by with_unfolding_all rfl) : FT c (.Compare a [.LtE, .Lt] [b, d] pos) (tst (chainM leD ltD fa fb fd)) := ft_chain (fun _ _ => op_le) (fun _ _ => op_lt) (op2_I0 fun _ _ _ => .bl _) (op2_I0 fun _ _ _ => .bl _) ha hb hd hm
theorem ft_ltlt (ha : FE c a fa) (hb : FE c b fb) (hd : FE c d fd) (hm : lastMarks [.Lt, .Lt] [b, d] = false := by with_unfolding_all rfl) : FT c (.Compare a [.Lt, .Lt] [b, d] pos) (tst (chainM ltD ltD fa fb fd)) := ft_chain (fun _ _ => op_lt) (fun _ _ => op_lt) (op2_I0 fun _ _ _ => .bl _) (op2_I0 fun _ _ _ => .bl _) ha hb hd hm

/-! ### and, or, not; tests; x if t else y -/
theorem fe_one {op : BoolOp} (ha : FE c a fa) : FE c (.BoolOp op [a] pos) fa := by
  obtain ⟨ta, pa, sa⟩ := ha.ex
  exact ⟨ta, fun X h => pe_one (pa X h), sa⟩
def andM (fa fb : M D) : M D := bindM fa fun x => bindM (liftO (toB x)) fun k => if k then fb else pureM (.bl false)
def orM (fa fb : M D) : M D := bindM fa fun x => bindM (liftO (toB x)) fun k => if k then pureM (.bl true) else fb
theorem fe_and {rest : List Expr} (ha : FE c a fa) (hb : FE c (.BoolOp .And (b :: rest) pos) fb) : FE c (.BoolOp .And (a :: b :: rest) pos) (andM fa fb) := by
  obtain ⟨ta, pa, sa⟩ := ha.ex
  obtain ⟨tb, pb, sb⟩ := hb.ex
  refine ⟨_, fun X h => pe_and (pa X h) (pb X h), fun F σ G H δ r s e Q p => ?_⟩
  refine sa.step s e p fun G1 H1 δ1 x d s1 g1 rx e1 p1 => ?_
  cases d <;> try (cases e1)
  rename_i k
  cases rx
  refine ⟨k, rfl, ?_⟩
  rw [show toB (.bl k) = some k from rfl, liftO_some, bindM_pure] at e1
  cases k with
  | false => cases e1; rw [if_neg Bool.false_ne_true]; exact p1 G1 H1 _ s1 (Same.refl _) (.bl _)
  | true => rw [if_pos rfl]; exact sb F σ G1 H1 δ1 r s1 e1 Q p1
theorem fe_or {rest : List Expr} (ha : FE c a fa) (hb : FE c (.BoolOp .Or (b :: rest) pos) fb) : FE c (.BoolOp .Or (a :: b :: rest) pos) (orM fa fb) := by
  obtain ⟨ta, pa, sa⟩ := ha.ex
  obtain ⟨tb, pb, sb⟩ := hb.ex
  refine ⟨_, fun X h => pe_or (pa X h) (pb X h), fun F σ G H δ r s e Q p => ?_⟩
  refine sa.step s e p fun G1 H1 δ1 x d s1 g1 rx e1 p1 => ?_
  cases d <;> try (cases e1)
  rename_i k
  cases rx
  refine ⟨k, rfl, ?_⟩
  rw [show toB (.bl k) = some k from rfl, liftO_some, bindM_pure] at e1
  cases k with
  | true => cases e1; rw [if_pos rfl]; exact p1 G1 H1 _ s1 (Same.refl _) (.bl _)
  | false => rw [if_neg Bool.false_ne_true]; exact sb F σ G1 H1 δ1 r s1 e1 Q p1
def notM (fa : M D) : M D := bindM fa fun x => bindM (liftO (toB x)) fun k => pureM (.bl (!k))
theorem fe_not (ha : FE c a fa) : FE c (.UnaryOp .Not a pos) (notM fa) := by
  obtain ⟨ta, pa, sa⟩ := ha.ex
  refine ⟨_, fun X h => pe_not (pa X h), fun F σ G H δ r s e Q p => ?_⟩
  refine sa.step s e p fun G1 H1 δ1 x d s1 g1 rx e1 p1 => ?_
  cases d <;> try (cases e1)
  rename_i k
  cases rx
  exact ⟨k, rfl, p1 G1 H1 _ s1 (Same.refl _) (.bl _)⟩
theorem ft_val (ha : FE c a fa) (he : ∀ (env : Env) whole, isTrue a env whole = (do let v ← whole; standAt a.pos; holding [v] (truthy v)) := by intro _ _; rfl) : FT c a (tst fa) := by
  obtain ⟨ta, pa, sa⟩ := ha.ex
  refine ⟨_, fun X h => pt_val (pa X h) (he _), fun F σ G H δ r s e Q p => ?_⟩
  refine sa.step s e p fun G1 H1 δ1 x d s1 g1 rx e1 p1 => ?_
  cases d <;> try (cases e1)
  rename_i k
  cases rx
  exact ⟨k, rfl, p1 G1 H1 _ s1 (Same.refl _) rfl⟩
theorem ft_not {f : M Bool} (ha : FT c a f) : FT c (.UnaryOp .Not a pos) (bindM f fun k => pureM (!k)) := by
  obtain ⟨ta, pa, sa⟩ := ha.ex
  refine ⟨_, fun X h => pt_not (pa X h), fun F σ G H δ r s e Q p => ?_⟩
  refine sa.step s e p fun G1 H1 δ1 x d s1 g1 rx e1 p1 => ?_
  cases e1
  cases rx
  exact p1 G1 H1 _ s1 (Same.refl _) rfl
theorem fw_and1 {f : M Bool} (ha : FT c a f) : FW c (.BoolOp .And [a] pos) f := by
  obtain ⟨ta, pa, sa⟩ := ha.ex
  exact ⟨_, fun X h => pw_and1 (pa X h), sa⟩
theorem fw_or1 {f : M Bool} (ha : FT c a f) : FW c (.BoolOp .Or [a] pos) f := by
  obtain ⟨ta, pa, sa⟩ := ha.ex
  exact ⟨_, fun X h => pw_or1 (pa X h), sa⟩
def andT (f g : M Bool) : M Bool := bindM f fun k => if k then g else pureM false
def orT (f g : M Bool) : M Bool := bindM f fun k => if k then pureM true else g
theorem fw_and {rest : List Expr} {f g : M Bool} (ha : FT c a f) (hb : FW c (.BoolOp .And (b :: rest) pos) g) : FW c (.BoolOp .And (a :: b :: rest) pos) (andT f g) := by
  obtain ⟨ta, pa, sa⟩ := ha.ex
  obtain ⟨tb, pb, sb⟩ := hb.ex
  refine ⟨_, fun X h => pw_and (pa X h) (pb X h), fun F σ G H δ r s e Q p => ?_⟩
  refine sa.step s e p fun G1 H1 δ1 x k s1 g1 rx e1 p1 => ?_
  have ek : x = k := rx
  subst ek
  cases x with
  | false => cases e1; rw [if_neg Bool.false_ne_true]; exact p1 G1 H1 _ s1 (Same.refl _) rfl
  | true => rw [if_pos rfl]; exact sb F σ G1 H1 δ1 r s1 e1 Q p1
theorem fw_or {rest : List Expr} {f g : M Bool} (ha : FT c a f) (hb : FW c (.BoolOp .Or (b :: rest) pos) g) : FW c (.BoolOp .Or (a :: b :: rest) pos) (orT f g) := by
  obtain ⟨ta, pa, sa⟩ := ha.ex
  obtain ⟨tb, pb, sb⟩ := hb.ex
  refine ⟨_, fun X h => pw_or (pa X h) (pb X h), fun F σ G H δ r s e Q p => ?_⟩
  refine sa.step s e p fun G1 H1 δ1 x k s1 g1 rx e1 p1 => ?_
  have ek : x = k := rx
  subst ek
  cases x with
  | true => cases e1; rw [if_pos rfl]; exact p1 G1 H1 _ s1 (Same.refl _) rfl
  | false => rw [if_neg Bool.false_ne_true]; exact sb F σ G1 H1 δ1 r s1 e1 Q p1
theorem ft_w {f : M Bool} (ha : FW c a f) : FT c a f := by
  obtain ⟨ta, pa, sa⟩ := ha.ex
  exact ⟨_, fun X h => (pa X h).pt, sa⟩
def iteM {α : Type} (f : M Bool) (x y : M α) : M α := bindM f fun k => if k then x else y
theorem fe_ite {f : M Bool} (hd : FT c d f) (ha : FE c a fa) (hb : FE c b fb) : FE c (.IfExp d a b pos) (iteM f fa fb) := by
  obtain ⟨td, pd, sd⟩ := hd.ex
  obtain ⟨ta, pa, sa⟩ := ha.ex
  obtain ⟨tb, pb, sb⟩ := hb.ex
  refine ⟨_, fun X h => pe_ifExp (pd X h) (pa X h) (pb X h), fun F σ G H δ r s e Q p => ?_⟩
  refine sd.step s e p fun G1 H1 δ1 x k s1 g1 rx e1 p1 => ?_
  have ek : x = k := rx
  subst ek
  cases x with
  | true => rw [if_pos rfl]; exact sa F σ G1 H1 δ1 r s1 e1 Q p1
  | false => rw [if_neg Bool.false_ne_true]; exact sb F σ G1 H1 δ1 r s1 e1 Q p1
end

/-! ### argument lists, displays -/
section
variable {e : Expr} {es : List Expr} {f : M D} {g : M (List D)} {pos : Pos}
theorem fa_nil : FA c [] (pureM []) := ⟨_, fun _ _ => pa_nil, Sp2.pure fun _ => .nil⟩
def consM (f : M D) (g : M (List D)) : M (List D) := bindM f fun x => bindM g fun r => pureM (x :: r)
theorem fa_cons (he : FE c e f) (hr : FA c es g) (hs : ∀ env : Env, starEach (e :: es) env = (false, eval e env) :: starEach es env := by intro _; rfl) : FA c (e :: es) (consM f g) := by
  obtain ⟨ta, pa, sa⟩ := he.ex
  obtain ⟨tb, pb, sb⟩ := hr.ex
  refine ⟨_, fun X h => pa_cons (pa X h) (pb X h) (hs _), fun F σ G H δ r s e Q p => ?_⟩
  refine sa.step s e p fun G1 H1 δ1 x d s1 g1 rx e1 p1 => ?_
  refine sb.step s1 e1 p1 fun G2 H2 δ2 y ds s2 g2 ry e2 p2 => ?_
  cases e2
  exact p2 G2 H2 _ s2 (Same.refl _) (.cons (rx.mono g2) ry)
def tupM (f : M (List D)) : M D := bindM f fun ds => if ds.length ≤ 1000000 then pureM (.tup ds) else fun _ => none
def lstM (f : M (List D)) : M D := bindM f fun ds => if ds.length ≤ 1000000 then pureM (.lst ds) else fun _ => none
theorem fe_tup {x1} (h : FA c es g) : FE c (.Tuple es x1 pos) (tupM g) := by
  obtain ⟨ta, pa, sa⟩ := h.ex
  refine ⟨_, fun X h => pe_tup (pa X h), fun F σ G H δ r s e Q p => ?_⟩
  refine sa.step s e p fun G1 H1 δ1 xs ds s1 g1 rx e1 p1 => ?_
  split at e1
  · rename_i hl
    cases e1
    refine ⟨by rw [rx.length]; exact small6 hl, fun q hq => ?_⟩
    have gp := s1.sub.free hq
    exact p1 _ _ _ (s1.new hq) (same_upd gp) (.tup (.of upd_same) (rx.mono (same_upd gp)))
  · cases e1
theorem fe_lst (h : FA c es g) : FE c (.List es pos) (lstM g) := by
  obtain ⟨ta, pa, sa⟩ := h.ex
  refine ⟨_, fun X h => pe_lst (pa X h), fun F σ G H δ r s e Q p => ?_⟩
  refine sa.step s e p fun G1 H1 δ1 xs ds s1 g1 rx e1 p1 => ?_
  split at e1
  · rename_i hl
    cases e1
    refine ⟨by rw [rx.length]; exact small6 hl, fun q hq => ?_⟩
    have gp := s1.sub.free hq
    exact p1 _ _ _ (s1.new hq) (same_upd gp) (.lst upd_same (rx.mono (same_upd gp)))
  · cases e1
end
end
end FL

set_option Elab.async false
set_option linter.all false
set_option maxRecDepth 100000
set_option maxHeartbeats 2000000
/-! FL3: built-ins, subscripts, slices; calls of defs. -/
namespace FL
open PySem PySem.Spec PyProof.Rows L2
abbrev Gb (c : SC) (x : Str) : Prop := c.sc.names.lookup x = some .globalImplicit
section
variable {c : SC}
/-! ### subscripts -/
theorem RepL.atI {K : PySem.W.Frag} {G : Hp} {vs : List V} {ds : List D} {i : Int} {d : D} (r : RepL K G vs ds) (h : atI ds i = some d) : ∃ v, L2.atI vs i = some v ∧ Rep K G v d := by
  unfold L2.atI at h ⊢
  rw [r.length]
  cases e : ixN ds.length i with
  | none => rw [e] at h; cases h
  | some j =>
    rw [e] at h
    obtain ⟨v, h1, h2⟩ := r.get (show ds[j]? = some d from h)
    exact ⟨v, h1, h2⟩
def ixD : D → D → Option D
  | .lst ds, .int i => atI ds i
  | .tup ds, .int i => atI ds i
  | .str z, .int i => if z.length ≤ sizeLine then (atI z.cps.toList i).map fun k => .str ⟨#[k]⟩ else none
  | _, _ => none
theorem op2_ix {K : PySem.W.Frag} : Op2 K (rIx K) ixD := by
  refine ⟨fun T F σ G H δ v u a b d s rv ru e Q q => ?_⟩
  unfold ixD at e
  split at e
  · rename_i ds i
    cases ru
    cases rv with
    | lst h1 h2 =>
      obtain ⟨w, e1, e2⟩ := h2.atI e
      exact .inl ⟨_, _, i, w, rfl, rfl, .of (s.sub _ _ h1), e1, q G H _ s (Same.refl _) e2⟩
  · rename_i ds i
    cases ru
    cases rv with
    | tup h1 h2 =>
      obtain ⟨w, e1, e2⟩ := h2.atI e
      exact .inr (.inl ⟨_, _, i, w, rfl, rfl, seqT s.sub h1, e1, q G H _ s (Same.refl _) e2⟩)
  · rename_i z i
    cases ru
    cases rv
    split at e
    · rename_i hz
      cases h : atI z.cps.toList i with
      | none => rw [h] at e; cases e
      | some k =>
        rw [h] at e
        cases e
        exact .inr (.inr ⟨z, i, k, rfl, rfl, hz, h, q G H _ s (Same.refl _) (.str _)⟩)
    · cases e
  · cases e
theorem fe_ix {a b : Expr} {fa fb : M D} {pos : Pos} (ha : FE c a fa) (hb : FE c b fb) (hs : PlainIx b := by intro _ _; rfl) : FE c (.Subscript a b pos) (bin2 ixD fa fb) := by
  obtain ⟨ta, pa, sa⟩ := ha.ex
  obtain ⟨tb, pb, sb⟩ := hb.ex
  exact ⟨_, fun X h => by have := pe_ix (X := X) (pos := pos) ix_seq (pa X h) (pb X h) hs; rwa [h.K] at this, Sp2.op2 op2_ix sa sb⟩
/-! ### slices -/
structure FO (c : SC) (e : Option Expr) (f : M (Option Int)) : Prop where
  ex : ∃ t, (∀ X, In c X → PO X e t) ∧ Sp2 c.κ c.cl c.E (fun _ (o o' : Option Int) => o = o') t f
theorem fo_none : FO c none (pureM none) := ⟨_, fun _ _ => po_none, Sp2.pure fun _ => rfl⟩
def intM (f : M D) : M (Option Int) := bindM f fun d => match d with | .int i => pureM (some i) | _ => fun _ => none
theorem fo_some {e : Expr} {f : M D} (h : FE c e f) : FO c (some e) (intM f) := by
  obtain ⟨ta, pa, sa⟩ := h.ex
  refine ⟨_, fun X h => po_some (pa X h), fun F σ G H δ r s e Q p => ?_⟩
  refine sa.step s e p fun G1 H1 δ1 x d s1 g1 rx e1 p1 => ?_
  cases d <;> try (cases e1)
  rename_i i
  cases rx
  exact ⟨i, rfl, p1 G1 H1 _ s1 (Same.refl _) rfl⟩
def cutL {α : Type} (xs : List α) (lo hi : Option Int) : List α := (xs.drop (HT.sIx xs.length 0 lo)).take (HT.sIx xs.length xs.length hi - HT.sIx xs.length 0 lo)
theorem RepL.cut {K : PySem.W.Frag} {G : Hp} {vs : List V} {ds : List D} (r : RepL K G vs ds) (lo hi : Option Int) : RepL K G (cutV vs lo hi) (cutL ds lo hi) := by
  unfold cutV cutL
  rw [r.length]
  exact (r.drop _).take _
def slD (d : D) (lo hi : Option Int) : Option D := match d with
  | .lst ds => some (.lst (cutL ds lo hi))
  | .tup ds => some (.tup (cutL ds lo hi))
  | .str z => if z.length ≤ 1000000 then some (.str (cutS z lo hi)) else none
  | _ => none
theorem fe_slice {e : Expr} {lo hi : Option Expr} {f : M D} {fl fh : M (Option Int)} {pos p2 : Pos} (he : FE c e f) (hl : FO c lo fl) (hh : FO c hi fh) :
    FE c (.Subscript e (.Slice lo hi none p2) pos) (bindM f fun d => bindM fl fun l => bindM fh fun h => liftO (slD d l h)) := by
  obtain ⟨ta, pa, sa⟩ := he.ex
  obtain ⟨tl, pl, sl⟩ := hl.ex
  obtain ⟨th, ph, sh⟩ := hh.ex
  refine ⟨_, fun X h => by have := pe_slice (X := X) (pos := pos) (p2 := p2) (sl_list.or (sl_tupA.or sl_str)) (pa X h) (pl X h) (ph X h); rwa [h.K] at this, fun F σ G H δ r s e Q p => ?_⟩
  refine sa.step s e p fun G1 H1 δ1 x d s1 g1 rx e1 p1 => ?_
  refine sl.step s1 e1 p1 fun G2 H2 δ2 y l s2 g2 ry e2 p2 => ?_
  refine sh.step s2 e2 p2 fun G3 H3 δ3 z h s3 g3 rz e3 p3 => ?_
  obtain ⟨d', hd', rfl⟩ := liftO_eq e3
  cases ry
  cases rz
  have rx3 := rx.mono (g2.trans g3)
  unfold slD at hd'
  split at hd'
  · cases hd'
    cases rx3 with
    | lst h1 h2 =>
      refine .inl ⟨_, _, rfl, .of (s3.sub _ _ h1), fun q hq => ?_⟩
      have gp := s3.sub.free hq
      exact p3 _ _ _ (s3.new hq) (same_upd gp) (.lst upd_same ((h2.cut _ _).mono (same_upd gp)))
  · cases hd'
    cases rx3 with
    | tup h1 h2 =>
      refine .inr (.inl ⟨_, _, rfl, seqT s3.sub h1, fun hw => ?_, fun hn q hq => ?_⟩)
      · rw [h2.length] at hw
        have e : cutL _ y z = _ := show (List.drop _ _).take _ = _ from by rw [hw.1, hw.2, List.drop_zero, Nat.sub_zero, List.take_length]
        rw [e] at p3
        exact p3 _ _ _ s3 (Same.refl _) (.tup h1 h2)
      · have gp := s3.sub.free hq
        exact p3 _ _ _ (s3.new hq) (same_upd gp) (.tup (.of upd_same) ((h2.cut _ _).mono (same_upd gp)))
  · split at hd'
    · rename_i hz
      cases hd'
      cases rx3
      exact .inr (.inr ⟨_, rfl, small6 hz, p3 _ _ _ s3 (Same.refl _) (.str _)⟩)
    · cases hd'
  · cases hd'

/-! ### built-ins -/
structure Cb (K : PySem.W.Frag) (r : List V → Hp → VK → Prop) (g : List D → Option D) : Prop where
  run : ∀ T F σ G H δ vs ds d, S (K, T) F σ G H δ → RepL K G vs ds → g ds = some d → ∀ Q : VK, (∀ G' H' w, S (K, T) F σ G' H' δ → Same G G' → Rep K G' w d → Q w H') → r vs H Q
theorem Cb.or {K : PySem.W.Frag} {r r' : List V → Hp → VK → Prop} {g g' : List D → Option D} (h : Cb K r g) (h' : Cb K r' g') : Cb K (fun xs H Q => r xs H Q ∨ r' xs H Q) (fun ds => (g ds).or (g' ds)) := by
  refine ⟨fun T F σ G H δ vs ds d s rv e Q q => ?_⟩
  cases h1 : g ds with
  | some d' =>
    rw [h1, Option.some_or] at e
    cases e
    exact .inl (h.run _ F σ G H δ vs ds _ s rv h1 Q q)
  | none =>
    rw [h1, Option.none_or] at e
    exact .inr (h'.run _ F σ G H δ vs ds _ s rv e Q q)
def callB (g : List D → Option D) (fa : M (List D)) : M D := bindM fa fun ds => liftO (g ds)
theorem Sp2.cb {K : PySem.W.Frag} {T : Tb} {cl : Nat → Addr} {E : XK} {r : List V → Hp → VK → Prop} {g : List D → Option D} {t : TA} {f : M (List D)} (hr : Cb K r g) (ha : Sp2 (K, T) cl E (RepL K) t f) : Sp2 (K, T) cl E (Rep K) (tCB r t) (callB g f) := by
  intro F σ G H δ r s e Q p
  refine ha.step s e p fun G1 H1 δ1 x ds s1 g1 rx e1 p1 => ?_
  obtain ⟨d, hd, rfl⟩ := liftO_eq e1
  exact hr.run _ F σ G1 H1 δ1 x ds d s1 rx hd Q fun G' H' w s' g' rw' => p1 G' H' w s' g' rw'
theorem fe_callB {id : String} {r : List V → Hp → VK → Prop} {g : List D → Option D} {x : Str} {p pos : Pos} {e : Expr} {es : List Expr} {f : M (List D)} (hm : c.mg x = none) (hc : ∀ X, In c X → CallR X (.builtin id) r) (hr : Cb c.K r g) (ha : FA c (e :: es) f)
    (hv : bootBuiltins x = some (.builtin id)) (hg : Gb c x := by rfl)
    (hn : x ≠ "__name__" := by decide) (hdb : (x == ("__debug__" : Str)) = false := by decide)
    (he : ∀ env : Env, starEach (e :: es) env = (false, eval e env) :: starEach es env := by intro _; rfl) (hpl : ∀ env : Env, (backTo pos (starEach es env)).any (·.1) = false := by intro _; rfl) :
    FE c (.Call (.Name x p) (e :: es) [] pos) (callB g f) := by
  obtain ⟨t, pa, sa⟩ := ha.ex
  exact ⟨_, fun X h => pe_callB (hc X h) (show X.env.scope.names.lookup x = _ by rw [h.sc]; exact hg) (by rw [h.mg]; exact hm) hv (pa X h) hn hdb (he _) (hpl _), Sp2.cb hr sa⟩
theorem fe_callTy {T : String} {r : List V → Hp → VK → Prop} {g : List D → Option D} {x : Str} {p pos : Pos} {e : Expr} {es : List Expr} {f : M (List D)} (hm : c.mg x = none) (hc : ∀ X, In c X → CallR X (.type T) r) (hr : Cb c.K r g) (ha : FA c (e :: es) f)
    (hv : bootBuiltins x = some (.type T)) (hg : Gb c x := by rfl)
    (hn : x ≠ "__name__" := by decide) (hdb : (x == ("__debug__" : Str)) = false := by decide)
    (he : ∀ env : Env, starEach (e :: es) env = (false, eval e env) :: starEach es env := by intro _; rfl) (hpl : ∀ env : Env, (backTo pos (starEach es env)).any (·.1) = false := by intro _; rfl) :
    FE c (.Call (.Name x p) (e :: es) [] pos) (callB g f) := by
  obtain ⟨t, pa, sa⟩ := ha.ex
  exact ⟨_, fun X h => pe_callTy (hc X h) (show X.env.scope.names.lookup x = _ by rw [h.sc]; exact hg) (by rw [h.mg]; exact hm) hv (pa X h) hn hdb (he _) (hpl _), Sp2.cb hr sa⟩
def absI (i : Int) : Int := if i < 0 then -i else i
def absD : List D → Option D
  | [.int i] => some (.int (absI i))
  | _ => none
theorem cb_abs {K : PySem.W.Frag} : Cb K (fun xs H Q => ∃ i, xs = [V.int i] ∧ Q (.int (if i < 0 then -i else i)) H) absD := by
  refine ⟨fun T F σ G H δ vs ds d s rv e Q q => ?_⟩
  unfold absD at e
  split at e
  · rename_i i
    cases e
    cases rv with
    | cons h t =>
      cases t
      cases h
      exact ⟨i, rfl, q G H _ s (Same.refl _) (.int _)⟩
  · cases e
theorem fe_abs {p pos : Pos} {e : Expr} {f : M (List D)} (hm : c.mg "abs" = none) (ha : FA c [e] f) (hg : Gb c "abs" := by rfl) (he : ∀ env : Env, starEach [e] env = (false, eval e env) :: starEach [] env := by intro _; rfl) :
    FE c (.Call (.Name "abs" p) [e] [] pos) (callB absD f) :=
  fe_callB hm (fun _ _ => call_abs) cb_abs ha (by first | exact PySem.boot_abs | decide +kernel) hg (he := he)
/-- max and min of a list of ints; of two ints -/
def intsOf : List D → Option (List Int)
  | [] => some []
  | .int i :: r => (intsOf r).map (i :: ·)
  | _ => none
theorem intsOf_some : ∀ {ds : List D} {ns : List Int}, intsOf ds = some ns → ds = ns.map D.int
  | [], ns, h => by cases h; rfl
  | .int i :: r, ns, h => by
    rw [intsOf] at h
    cases q : intsOf r with
    | none => rw [q] at h; cases h
    | some ms => rw [q] at h; cases h; rw [intsOf_some q]; rfl
  | .non :: _, _, h => by cases h
  | .bl _ :: _, _, h => by cases h
  | .str _ :: _, _, h => by cases h
  | .lst _ :: _, _, h => by cases h
  | .tup _ :: _, _, h => by cases h
  | .ins _ _ :: _, _, h => by cases h
  | .fn _ :: _, _, h => by cases h
theorem intsOf_map : ∀ ns : List Int, intsOf (ns.map D.int) = some ns
  | [] => rfl
  | n :: r => by rw [List.map_cons, intsOf, intsOf_map r]; rfl
def maxL : List Int → Int
  | [] => 0
  | [x] => x
  | x :: y :: r => let m := maxL (y :: r); if x < m then m else x
def minL : List Int → Int
  | [] => 0
  | [x] => x
  | x :: y :: r => let m := minL (y :: r); if m < x then m else x
theorem maxL_mem : ∀ {l : List Int}, 0 < l.length → maxL l ∈ l
  | [], h => by simp at h
  | [x], _ => by simp [maxL]
  | x :: y :: r, _ => by
    have ih := maxL_mem (l := y :: r) (by simp)
    simp only [maxL]
    split
    · exact List.mem_cons_of_mem _ ih
    · exact List.mem_cons_self
theorem maxL_le : ∀ {l : List Int} {z : Int}, z ∈ l → z ≤ maxL l
  | [], _, h => by simp at h
  | [x], z, h => by simp [maxL] at h ⊢; omega
  | x :: y :: r, z, h => by
    simp only [maxL]
    rcases List.mem_cons.mp h with rfl | h
    · split <;> omega
    · have ih := maxL_le (l := y :: r) h
      split <;> omega
theorem minL_mem : ∀ {l : List Int}, 0 < l.length → minL l ∈ l
  | [], h => by simp at h
  | [x], _ => by simp [minL]
  | x :: y :: r, _ => by
    have ih := minL_mem (l := y :: r) (by simp)
    simp only [minL]
    split
    · exact List.mem_cons_of_mem _ ih
    · exact List.mem_cons_self
theorem minL_le : ∀ {l : List Int} {z : Int}, z ∈ l → minL l ≤ z
  | [], _, h => by simp at h
  | [x], z, h => by simp [minL] at h ⊢; omega
  | x :: y :: r, z, h => by
    simp only [minL]
    rcases List.mem_cons.mp h with rfl | h
    · split <;> omega
    · have ih := minL_le (l := y :: r) h
      split <;> omega
def maxD : List D → Option D
  | [.lst ds] => match intsOf ds with
    | some (n :: r) => some (.int (maxL (n :: r)))
    | _ => none
  | _ => none
def minD : List D → Option D
  | [.lst ds] => match intsOf ds with
    | some (n :: r) => some (.int (minL (n :: r)))
    | _ => none
  | _ => none
theorem cb_max {K : PySem.W.Frag} : Cb K (rMax K) maxD := by
  refine ⟨fun T F σ G H δ vs ds d s rv e Q q => ?_⟩
  unfold maxD at e
  split at e
  · split at e
    · rename_i n r hi
      cases e
      cases rv with
      | cons h t =>
        cases t
        cases h with
        | lst h1 h2 =>
          rw [intsOf_some hi] at h2
          have ev := h2.ints'
          subst ev
          refine ⟨_, n :: r, rfl, .of (s.sub _ _ h1), by simp, fun m hm hle => ?_⟩
          have : m = maxL (n :: r) := Int.le_antisymm (maxL_le hm) (hle _ (maxL_mem (by simp)))
          rw [this]
          exact q G H _ s (Same.refl _) (.int _)
    · cases e
  · cases e
theorem cb_min {K : PySem.W.Frag} : Cb K (rMin K) minD := by
  refine ⟨fun T F σ G H δ vs ds d s rv e Q q => ?_⟩
  unfold minD at e
  split at e
  · split at e
    · rename_i n r hi
      cases e
      cases rv with
      | cons h t =>
        cases t
        cases h with
        | lst h1 h2 =>
          rw [intsOf_some hi] at h2
          have ev := h2.ints'
          subst ev
          refine ⟨_, n :: r, rfl, .of (s.sub _ _ h1), by simp, fun m hm hle => ?_⟩
          have : m = minL (n :: r) := Int.le_antisymm (hle _ (minL_mem (by simp))) (minL_le hm)
          rw [this]
          exact q G H _ s (Same.refl _) (.int _)
    · cases e
  · cases e
theorem fe_max {p pos : Pos} {e : Expr} {f : M (List D)} (hm : c.mg "max" = none) (ha : FA c [e] f) (hg : Gb c "max" := by rfl) (he : ∀ env : Env, starEach [e] env = (false, eval e env) :: starEach [] env := by intro _; rfl) :
    FE c (.Call (.Name "max" p) [e] [] pos) (callB maxD f) :=
  fe_callB hm (fun X h => by have := cr_max (X := X) h.calm; rwa [h.K] at this) cb_max ha (by first | exact PyProof.Rows.boot_max | decide +kernel) hg (he := he)
theorem fe_min {p pos : Pos} {e : Expr} {f : M (List D)} (hm : c.mg "min" = none) (ha : FA c [e] f) (hg : Gb c "min" := by rfl) (he : ∀ env : Env, starEach [e] env = (false, eval e env) :: starEach [] env := by intro _; rfl) :
    FE c (.Call (.Name "min" p) [e] [] pos) (callB minD f) :=
  fe_callB hm (fun X h => by have := cr_min (X := X) h.calm; rwa [h.K] at this) cb_min ha (by first | exact PyProof.Rows.boot_min | decide +kernel) hg (he := he)
def sumD : List D → Option D
  | [.lst ds] => (intsOf ds).map fun ns => .int ns.sum
  | _ => none
theorem cb_sum {K : PySem.W.Frag} : Cb K (rSum K) sumD := by
  refine ⟨fun T F σ G H δ vs ds d s rv e Q q => ?_⟩
  unfold sumD at e
  split at e
  · rename_i ds
    cases hi : intsOf ds with
    | none => rw [hi] at e; cases e
    | some ns =>
      rw [hi] at e
      cases e
      cases rv with
      | cons h t =>
        cases t
        cases h with
        | lst h1 h2 =>
          rw [intsOf_some hi] at h2
          have ev := h2.ints'
          subst ev
          exact ⟨_, ns, rfl, .of (s.sub _ _ h1), q G H _ s (Same.refl _) (.int _)⟩
  · cases e
theorem fe_sum {p pos : Pos} {e : Expr} {f : M (List D)} (hm : c.mg "sum" = none) (ha : FA c [e] f) (hg : Gb c "sum" := by rfl) (he : ∀ env : Env, starEach [e] env = (false, eval e env) :: starEach [] env := by intro _; rfl) :
    FE c (.Call (.Name "sum" p) [e] [] pos) (callB sumD f) :=
  fe_callB hm (fun X h => by have := cr_sum (X := X) h.calm; rwa [h.K] at this) cb_sum ha (by decide +kernel) hg (he := he)
def lenD : List D → Option D
  | [.lst ds] => some (.int ds.length)
  | [.tup ds] => some (.int ds.length)
  | [.str z] => if z.length ≤ sizeLine then some (.int z.length) else none
  | _ => none
theorem cb_len {K : PySem.W.Frag} : Cb K (fun xs H Q => (∃ p ys, xs = [V.ref p] ∧ (SqL K H p ys ∨ SqT K H p ys) ∧ Q (.int ys.length) H) ∨ (∃ z, xs = [V.str z] ∧ z.length ≤ sizeLine ∧ Q (.int z.length) H)) lenD := by
  refine ⟨fun T F σ G H δ vs ds d s rv e Q q => ?_⟩
  unfold lenD at e
  split at e
  · cases e
    cases rv with
    | cons h t =>
      cases t
      cases h with
      | lst h1 h2 => exact .inl ⟨_, _, rfl, .inl (.of (s.sub _ _ h1)), by rw [h2.length]; exact q G H _ s (Same.refl _) (.int _)⟩
  · cases e
    cases rv with
    | cons h t =>
      cases t
      cases h with
      | tup h1 h2 => exact .inl ⟨_, _, rfl, .inr (seqT s.sub h1), by rw [h2.length]; exact q G H _ s (Same.refl _) (.int _)⟩
  · split at e
    · rename_i z hz
      cases e
      cases rv with
      | cons h t =>
        cases t
        cases h
        exact .inr ⟨z, rfl, hz, q G H _ s (Same.refl _) (.int _)⟩
    · cases e
  · cases e
theorem fe_len {p pos : Pos} {e : Expr} {f : M (List D)} (hm : c.mg "len" = none) (ha : FA c [e] f) (hg : Gb c "len" := by rfl) (he : ∀ env : Env, starEach [e] env = (false, eval e env) :: starEach [] env := by intro _; rfl) :
    FE c (.Call (.Name "len" p) [e] [] pos) (callB lenD f) :=
  fe_callB hm (fun X h => by have := (call_len_seq (X := X)).or call_len_str; rwa [h.K] at this) cb_len ha PySem.boot_len hg (he := he)
def listD : List D → Option D
  | [.lst ds] => some (.lst ds)
  | [.tup ds] => some (.lst ds)
  | _ => none
theorem cb_list {K : PySem.W.Frag} : Cb K (fun xs H Q => ∃ p ys, xs = [V.ref p] ∧ (SqL K H p ys ∨ SqT K H p ys) ∧ ∀ l, H l = none → Q (.ref l) (upd H l (.lst ys))) listD := by
  refine ⟨fun T F σ G H δ vs ds d s rv e Q q => ?_⟩
  unfold listD at e
  split at e
  · cases e
    cases rv with
    | cons h t =>
      cases t
      cases h with
      | lst h1 h2 => exact ⟨_, _, rfl, .inl (.of (s.sub _ _ h1)), fun l hl => q _ _ _ (s.new hl) (same_upd (s.sub.free hl)) (.lst upd_same (h2.mono (same_upd (s.sub.free hl))))⟩
  · cases e
    cases rv with
    | cons h t =>
      cases t
      cases h with
      | tup h1 h2 => exact ⟨_, _, rfl, .inr (seqT s.sub h1), fun l hl => q _ _ _ (s.new hl) (same_upd (s.sub.free hl)) (.lst upd_same (h2.mono (same_upd (s.sub.free hl))))⟩
  · cases e
theorem fe_list {p pos : Pos} {e : Expr} {f : M (List D)} (hm : c.mg "list" = none) (ha : FA c [e] f) (hg : Gb c "list" := by rfl) (he : ∀ env : Env, starEach [e] env = (false, eval e env) :: starEach [] env := by intro _; rfl) :
    FE c (.Call (.Name "list" p) [e] [] pos) (callB listD f) :=
  fe_callTy hm (fun X h => by have := call_list_of (X := X); rwa [h.K] at this) cb_list ha (by decide +kernel) hg (he := he)
def tupleD : List D → Option D
  | [.lst ds] => some (.tup ds)
  | [.tup ds] => some (.tup ds)
  | _ => none
theorem cb_tuple {K : PySem.W.Frag} : Cb K (fun xs H Q => ∃ p ys, xs = [V.ref p] ∧ ((SqL K H p ys ∧ ∀ l, H l = none → Q (.ref l) (upd H l (.tup ys))) ∨ (SqT K H p ys ∧ Q (.ref p) H))) tupleD := by
  refine ⟨fun T F σ G H δ vs ds d s rv e Q q => ?_⟩
  unfold tupleD at e
  split at e
  · cases e
    cases rv with
    | cons h t =>
      cases t
      cases h with
      | lst h1 h2 => exact ⟨_, _, rfl, .inl ⟨.of (s.sub _ _ h1), fun l hl => q _ _ _ (s.new hl) (same_upd (s.sub.free hl)) (.tup (.of upd_same) (h2.mono (same_upd (s.sub.free hl))))⟩⟩
  · cases e
    cases rv with
    | cons h t =>
      cases t
      cases h with
      | tup h1 h2 => exact ⟨_, _, rfl, .inr ⟨seqT s.sub h1, q G H _ s (Same.refl _) (.tup h1 h2)⟩⟩
  · cases e
theorem fe_tuple {p pos : Pos} {e : Expr} {f : M (List D)} (hm : c.mg "tuple" = none) (ha : FA c [e] f) (hg : Gb c "tuple" := by rfl) (he : ∀ env : Env, starEach [e] env = (false, eval e env) :: starEach [] env := by intro _; rfl) :
    FE c (.Call (.Name "tuple" p) [e] [] pos) (callB tupleD f) :=
  fe_callTy hm (fun X h => by have := call_tuple_of (X := X); rwa [h.K] at this) cb_tuple ha (by decide +kernel) hg (he := he)
def intD : List D → Option D
  | [.int i] => some (.int i)
  | [.bl b] => some (.int (if b then 1 else 0))
  | _ => none
theorem cb_int {K : PySem.W.Frag} : Cb K (fun xs H Q => (∃ i, xs = [V.int i] ∧ Q (.int i) H) ∨ ∃ k, xs = [V.bl k] ∧ Q (.int (if k then 1 else 0)) H) intD := by
  refine ⟨fun T F σ G H δ vs ds d s rv e Q q => ?_⟩
  unfold intD at e
  split at e
  · cases e
    cases rv with
    | cons h t =>
      cases t
      cases h
      exact .inl ⟨_, rfl, q G H _ s (Same.refl _) (.int _)⟩
  · cases e
    cases rv with
    | cons h t =>
      cases t
      cases h
      exact .inr ⟨_, rfl, q G H _ s (Same.refl _) (.int _)⟩
  · cases e
theorem fe_int1 {p pos : Pos} {e : Expr} {f : M (List D)} (hm : c.mg "int" = none) (ha : FA c [e] f) (hg : Gb c "int" := by rfl) (he : ∀ env : Env, starEach [e] env = (false, eval e env) :: starEach [] env := by intro _; rfl) :
    FE c (.Call (.Name "int" p) [e] [] pos) (callB intD f) :=
  fe_callTy hm (fun X h => call_int1) cb_int ha PyProof.Rows.boot_int hg (he := he)

/-! ### defs of one's own -/
/-- what a def gives for data: none: not told; ret: hands back; ex: raises the c-th class -/
inductive Res where
  | ret (d : D) | ex (c : Nat)
abbrev DF := List D → Option Res
/-- the tables are there, not among what is held -/
def TabsIn (T : List (Addr × Str)) (F H : Hp) : Prop := LamX.Tabs T H ∧ ∀ p ∈ T, F p.1 = none
/-- the promise of a def that changes nothing that stood, but for the tables T -/
def spD (K : PySem.W.Frag) (cl : Nat → Addr) (T : List (Addr × Str)) (f : DF) : Sp := fun vs H Q E => ∃ (F G : Hp) (ds : List D) (r : Res), Same G H ∧ Same F H ∧ (∀ b o, F b = some o → G b = none) ∧ (∀ b ps, G b ≠ some (.tbl ps)) ∧ (∀ b ps, F b ≠ some (.tbl ps)) ∧ TabsIn T F H ∧ RepL K G vs ds ∧ f ds = some r ∧
  match r with
  | .ret d => ∀ G' H' v, Same G G' → Same G' H' → Same F H' → (∀ b o, F b = some o → G' b = none) → (∀ b ps, G' b ≠ some (.tbl ps)) → LamX.Tabs T H' → Rep K G' v d → Q v H'
  | .ex k => ∀ G' H', Same G G' → Same G' H' → Same F H' → LamX.Tabs T H' → E (.ref (cl k)) none H'
structure FnD (P : Program) (w : World) (K : PySem.W.Frag) (mg : Str → Option Value) (base : Heap) (cl : Nat → Addr) (T : List (Addr × Str)) (k : Nat) (x : Str) (f : DF) : Prop where
  ex : ∃ (a : Addr) (fd : FuncData) (ps : List Str), mg x = some (.ref a) ∧ PySem.W.keepIn K (.ref a) = true ∧ Binds K fd ps [] ∧ FnOk P w K mg base (L2.CX P w) k a fd ps (spD K cl T f)
theorem FnD.mono {P : Program} {w : World} {K : PySem.W.Frag} {mg : Str → Option Value} {base : Heap} {cl : Nat → Addr} {T : List (Addr × Str)} {j k : Nat} {x : Str} {f : DF} (h : FnD P w K mg base cl T j x f) (hj : j ≤ k) : FnD P w K mg base cl T k x f := by
  obtain ⟨a, fd, ps, h1, h2, h3, h4⟩ := h.ex
  exact ⟨a, fd, ps, h1, h2, h3, h4.mono hj⟩
/-- callers' frozen heap of a state: all of H that is not G and not one of its own lists -/
def resM (r : Option Res) : M D := fun δ => match r with
  | none => none
  | some (.ret d) => some (.ok d δ)
  | some (.ex k) => some (.ex k)
def callM (f : DF) (fa : M (List D)) : M D := bindM fa fun ds => resM (f ds)
/-- all that H holds beside G, but for tables -/
def besides (G H : Hp) : Hp := fun b => match G b with
  | some _ => none
  | none => match H b with
    | some (.tbl _) => none
    | o => o
theorem besides_at {G H : Hp} {b : Addr} {o : HO} (e : besides G H b = some o) : G b = none ∧ H b = some o ∧ ∀ ps, o ≠ .tbl ps := by
  unfold besides at e
  split at e
  · cases e
  · rename_i q
    split at e
    · cases e
    · rename_i h
      exact ⟨q, e, fun ps z => h ps (by rw [e, z])⟩
theorem besides_of {G H : Hp} {b : Addr} {o : HO} (e : H b = some o) (n : G b = none) (t : ∀ ps, o ≠ .tbl ps) : besides G H b = some o := by
  unfold besides
  rw [n]
  dsimp only
  rw [e]
  cases o with
  | tbl ps => exact absurd rfl (t ps)
  | _ => rfl
theorem besides_tab {T : List (Addr × Str)} {G H : Hp} (t : LamX.Tabs T H) : TabsIn T (besides G H) H := ⟨t, fun p hp => by
  obtain ⟨ps, h, _⟩ := t p hp
  cases q : besides G H p.1 with
  | none => rfl
  | some o =>
    obtain ⟨_, h2, h3⟩ := besides_at q
    rw [h] at h2
    cases h2
    exact absurd rfl (h3 ps)⟩
theorem S.after {K : PySem.W.Frag} {T : Tb} {F G H G' H' : Hp} {σ : L2.St} {δ : De} (s : S (K, T) F σ G H δ) (g : Same G G') (h : Same G' H') (f : Same (besides G H) H') (d : ∀ b o, besides G H b = some o → G' b = none) (n : ∀ b ps, G' b ≠ some (.tbl ps)) (t : LamX.Tabs T.1 H') : S (K, T) F σ G' H' δ := by
  have bs : ∀ b o, F b = some o → besides G H b = some o := fun b o e => besides_of (s.frm _ _ e) (s.dis _ _ e) fun ps z => s.ntf b ps (by rw [e, z])
  refine ⟨h, fun b o e => f _ _ (bs _ _ e), fun b o e => d _ _ (bs _ _ e), s.len, fun i d' e => ?_, fun i xs e => ?_, s.inj, t, fun x hx => ⟨(s.tnf x hx).1, ?_⟩, n, s.ntf, s.lw⟩
  · obtain ⟨v, h1, h2⟩ := s.val i d' e
    exact ⟨v, h1, h2.mono g⟩
  · obtain ⟨p, vs, h1, h2, h3, h4, h5⟩ := s.own i xs e
    have b0 := besides_of h2 h4 fun ps z => by cases z
    exact ⟨p, vs, h1, f _ _ b0, h3.mono g, d _ _ b0, h5⟩
  · obtain ⟨ps, hp, _⟩ := t x hx
    cases q : G' x.1 with
    | none => rfl
    | some o =>
      have := h _ _ q
      rw [hp] at this
      cases this
      exact absurd q (n _ _)
theorem fe_call {k : Nat} {x : Str} {f : DF} {p pos : Pos} {e : Expr} {es : List Expr} {fa : M (List D)} (F : FnD c.P c.w c.K c.mg c.base c.cl c.T.1 k x f) (ha : FA c (e :: es) fa) (hk : Nat.ble k c.k = true := by rfl)
    (hg : Gb c x := by rfl)
    (hdb : (x == ("__debug__" : Str)) = false := by decide) (he : ∀ env : Env, starEach (e :: es) env = (false, eval e env) :: starEach es env := by intro _; rfl) (hpl : ∀ env : Env, (backTo pos (starEach es env)).any (·.1) = false := by intro _; rfl) :
    FE c (.Call (.Name x p) (e :: es) [] pos) (callM f fa) := by
  obtain ⟨t, pa, sa⟩ := ha.ex
  obtain ⟨a, fd, ps, h1, h2, h3, h4⟩ := F.ex
  refine ⟨tCallS (spD c.K c.cl c.T.1 f) (WE fun cls d _ H => c.E cls d H) t, fun X h => ?_, ?_⟩
  · have h4' : FnOk X.prog X.w X.K X.mg X.base (L2.CX X.prog X.w) k a fd ps (spD c.K c.cl c.T.1 f) := by rw [h.P, h.w, h.K, h.mg, h.base]; exact h4
    exact pe_callS h4' (h.room.mono (Nat.le_of_ble_eq_true hk)) (show X.env.scope.names.lookup x = _ by rw [h.sc]; exact hg) (by rw [h.mg]; exact h1) (by rw [h.K]; exact h2) (by rw [h.K]; exact h3) h.pa (pa X h) hdb (he _) (hpl _)
  · intro F σ G H δ r s e Q p
    refine sa.step s e p fun G1 H1 δ1 vs ds s1 g1 rx e1 p1 => ?_
    unfold resM at e1
    cases h : f ds with
    | none => rw [h] at e1; cases e1
    | some rr =>
      rw [h] at e1
      refine ⟨besides G1 H1, G1, ds, rr, s1.sub, fun b o e => (besides_at e).2.1, fun b o e => (besides_at e).1, s1.ntg, fun b ps e => (besides_at e).2.2 ps rfl, besides_tab s1.tab, rx, h, ?_⟩
      cases rr with
      | ret d =>
        cases e1
        exact fun G' H' v g' h' f' d' n' t' rv => p1 G' H' v (s1.after g' h' f' d' n' t') g' rv
      | ex k =>
        cases e1
        exact fun G' H' g' h' f' t' => p1 G' H' g' h' (fun b o e => f' _ _ (besides_of (s1.frm _ _ e) (s1.dis _ _ e) fun ps z => s1.ntf b ps (by rw [e, z]))) t'
end
end FL

set_option Elab.async false
set_option linter.all false
set_option maxRecDepth 100000
set_option maxHeartbeats 2000000
/-! FL4: what is walked, targets, statements, defs. -/
namespace FL
open PySem PySem.Spec PyProof.Rows L2
/-! ### what is walked -/
structure Walks (K : PySem.W.Frag) (G' : Hp) (J : It) (ds : List D) : Prop where
  go : ∀ T F σ G H δ i, Same G' G → S (K, T) F σ G H δ → i < ds.length → J.go i H
  yld : ∀ T F σ G H δ i x H3 d, Same G' G → S (K, T) F σ G H δ → J.yld i H x H3 → ds[i]? = some d → ∃ G3, S (K, T) F σ G3 H3 δ ∧ Same G G3 ∧ Rep K G3 x d
  stop : ∀ T F σ G H δ i, Same G' G → S (K, T) F σ G H δ → ds.length ≤ i → J.stop i H
structure FI (c : SC) (tg iter : Expr) (f : M (List D)) : Prop where
  ex : ∃ wi, (∀ X, In c X → PI X tg iter wi) ∧ Sp2 c.κ c.cl c.E (Walks c.K) wi f
theorem pi_or {X : Cx} {tg it : Expr} {w w' : TI} (h : PI X tg it w) (h' : PI X tg it w') : PI X tg it (fun σ H R => w σ H R ∨ w' σ H R) :=
  ⟨fun pins s σ H R I q => q.elim (h.run pins s σ H R I) (h'.run pins s σ H R I)⟩
def seqOf : D → Option (List D)
  | .lst ds => some ds
  | .tup ds => some ds
  | _ => none
section
variable {c : SC}
theorem walks_l {K : PySem.W.Frag} {G : Hp} {a : Addr} {xs : List V} {ds : List D} (h : G a = some (.lst xs)) (r : RepL K G xs ds) : Walks K G (Itl K a) ds where
  go := fun T F σ G1 H δ i g s hi => by
    obtain ⟨d, hd⟩ : ∃ d, ds[i]? = some d := ⟨_, List.getElem?_eq_getElem hi⟩
    obtain ⟨v, h1, h2⟩ := r.get hd
    exact ⟨xs, v, .of (s.sub _ _ (g _ _ h)), h1⟩
  yld := fun T F σ G1 H δ i x H3 d g s hy hd => by
    obtain ⟨rfl, q⟩ := hy
    obtain ⟨v, h1, h2⟩ := r.get hd
    have := q xs (.of (s.sub _ _ (g _ _ h)))
    rw [h1] at this
    cases this
    exact ⟨G1, s, Same.refl _, h2.mono g⟩
  stop := fun T F σ G1 H δ i g s hi => ⟨xs, .of (s.sub _ _ (g _ _ h)), by rw [r.length]; exact hi⟩
theorem walks_t {K : PySem.W.Frag} {G : Hp} {a : Addr} {xs : List V} {ds : List D} (h : SqT K G a xs) (r : RepL K G xs ds) : Walks K G (Itt K a) ds where
  go := fun T F σ G1 H δ i g s hi => by
    obtain ⟨d, hd⟩ : ∃ d, ds[i]? = some d := ⟨_, List.getElem?_eq_getElem hi⟩
    obtain ⟨v, h1, h2⟩ := r.get hd
    exact ⟨xs, v, seqT (g.trans s.sub) h, h1⟩
  yld := fun T F σ G1 H δ i x H3 d g s hy hd => by
    obtain ⟨rfl, q⟩ := hy
    obtain ⟨v, h1, h2⟩ := r.get hd
    have := q xs (seqT (g.trans s.sub) h)
    rw [h1] at this
    cases this
    exact ⟨G1, s, Same.refl _, h2.mono g⟩
  stop := fun T F σ G1 H δ i g s hi => ⟨xs, seqT (g.trans s.sub) h, by rw [r.length]; exact hi⟩
def seqM (f : M D) : M (List D) := bindM f fun d => liftO (seqOf d)
theorem fi_seq {tg e : Expr} {f : M D} (h : FE c e f) : FI c tg e (seqM f) := by
  obtain ⟨t, pa, sa⟩ := h.ex
  refine ⟨fun σ H R => iList c.K t σ H R ∨ iTup c.K t σ H R, fun X h => by have := pi_or (tg := tg) (pi_list (pa X h)) (pi_tup (pa X h)); rwa [h.K] at this, fun F σ G H δ r s e Q p => ?_⟩
  -- which of the two: by the value
  unfold seqM bindM at e
  cases hf : f δ with
  | none => rw [hf] at e; cases e
  | some ra =>
    rw [hf] at e
    cases ra with
    | ex k => cases e; exact .inl (sa F σ G H δ _ s hf _ p)
    | ok d δ' =>
      obtain ⟨ds, hd, rfl⟩ := liftO_eq e
      cases d <;> simp only [seqOf, Option.some.injEq, reduceCtorEq] at hd
      · subst hd
        refine .inl (sa F σ G H δ _ s hf _ fun G1 H1 v s1 g1 rv => ?_)
        cases rv with
        | lst h1 h2 => exact ⟨_, rfl, ⟨_, .of (s1.sub _ _ h1)⟩, p G1 H1 _ s1 g1 (walks_l h1 h2)⟩
      · subst hd
        refine .inr (sa F σ G H δ _ s hf _ fun G1 H1 v s1 g1 rv => ?_)
        cases rv with
        | tup h1 h2 => exact ⟨_, rfl, ⟨_, seqT s1.sub h1⟩, p G1 H1 _ s1 g1 (walks_t h1 h2)⟩
/-- lo, lo + 1, .. -/
def rangeL (lo : Int) (n : Nat) : List D := (List.range n).map fun (k : Nat) => D.int (lo + k)
theorem rangeL_len (lo : Int) (n : Nat) : (rangeL lo n).length = n := by simp [rangeL]
theorem walks_r {K : PySem.W.Frag} {G : Hp} {lo : Int} {n : Nat} : Walks K G (Itr lo n) (rangeL lo n) where
  go := fun T F σ G1 H δ i g s hi => by rw [rangeL_len] at hi; exact hi
  yld := fun T F σ G1 H δ i x H3 d g s hy hd => by
    obtain ⟨rfl, rfl⟩ := hy
    unfold rangeL at hd
    rw [List.getElem?_map] at hd
    cases h : (List.range n)[i]? with
    | none => rw [h] at hd; cases hd
    | some k =>
      rw [h] at hd
      cases hd
      have : k = i := by
        have := List.getElem?_eq_some_iff.mp h
        obtain ⟨h1, h2⟩ := this
        rw [List.getElem_range] at h2
        exact h2.symm
      subst this
      exact ⟨G1, s, Same.refl _, .int _⟩
  stop := fun T F σ G1 H δ i g s hi => by rw [rangeL_len] at hi; exact hi
def inR (j : Int) : Prop := -(2 ^ 62) ≤ j ∧ j < 2 ^ 62
instance (j : Int) : Decidable (inR j) := by unfold inR; infer_instance
def rng1 : List D → Option (List D)
  | [.int j] => if inR j then some (rangeL 0 j.toNat) else none
  | _ => none
def rng2 : List D → Option (List D)
  | [.int i, .int j] => if inR i ∧ inR j then some (rangeL i (j - i).toNat) else none
  | _ => none
def itM (g : List D → Option (List D)) (f : M (List D)) : M (List D) := bindM f fun ds => liftO (g ds)
theorem fi_range1 {tg a : Expr} {f : M (List D)} {p pos : Pos} (hm : c.mg "range" = none) (ha : FA c [a] f) (hg : Gb c "range" := by rfl) (hs : ∀ env : Env, starEach [a] env = [(false, eval a env)] := by intro _; rfl) : FI c tg (.Call (.Name "range" p) [a] [] pos) (itM rng1 f) := by
  obtain ⟨t, pa, sa⟩ := ha.ex
  refine ⟨_, fun X h => pi_range1 (show X.env.scope.names.lookup _ = _ by rw [h.sc]; exact hg) (by rw [h.mg]; exact hm) (pa X h) (hs _), fun F σ G H δ r s e Q p => ?_⟩
  refine sa.step s e p fun G1 H1 δ1 x ds s1 g1 rx e1 p1 => ?_
  obtain ⟨d, hd, rfl⟩ := liftO_eq e1
  unfold rng1 at hd
  split at hd
  · split at hd
    · rename_i j hj
      cases hd
      cases rx with
      | cons h t =>
        cases t
        cases h
        exact ⟨j, rfl, hj.1, hj.2, p1 G1 H1 _ s1 (Same.refl _) walks_r⟩
    · cases hd
  · cases hd
theorem fi_range2 {tg a b : Expr} {f : M (List D)} {p pos : Pos} (hm : c.mg "range" = none) (ha : FA c [a, b] f) (hg : Gb c "range" := by rfl) (hs : ∀ env : Env, starEach [a, b] env = [(false, eval a env), (false, eval b env)] := by intro _; rfl) (hs2 : ∀ env : Env, starEach [b] env = [(false, eval b env)] := by intro _; rfl) :
    FI c tg (.Call (.Name "range" p) [a, b] [] pos) (itM rng2 f) := by
  obtain ⟨t, pa, sa⟩ := ha.ex
  refine ⟨_, fun X h => pi_range2 (show X.env.scope.names.lookup _ = _ by rw [h.sc]; exact hg) (by rw [h.mg]; exact hm) (pa X h) (hs _) (hs2 _), fun F σ G H δ r s e Q p => ?_⟩
  refine sa.step s e p fun G1 H1 δ1 x ds s1 g1 rx e1 p1 => ?_
  obtain ⟨d, hd, rfl⟩ := liftO_eq e1
  unfold rng2 at hd
  split at hd
  · split at hd
    · rename_i i j hj
      cases hd
      cases rx with
      | cons h t =>
        cases t with
        | cons h' t =>
          cases t
          cases h
          cases h'
          exact ⟨i, j, rfl, ⟨hj.1.1, hj.1.2, hj.2.1, hj.2.2⟩, p1 G1 H1 _ s1 (Same.refl _) walks_r⟩
    · cases hd
  · cases hd
/-- zip of two lists, of two tuples -/
def zipL : List D → List D → List D
  | x :: xs, y :: ys => .tup [x, y] :: zipL xs ys
  | _, _ => []
theorem zipL_get : ∀ {xs ys : List D} {i : Nat} {d : D}, (zipL xs ys)[i]? = some d → ∃ x y, xs[i]? = some x ∧ ys[i]? = some y ∧ d = .tup [x, y]
  | [], ys, i, d, h => by simp [zipL] at h
  | x :: xs, [], i, d, h => by simp [zipL] at h
  | x :: xs, y :: ys, 0, d, h => by simp [zipL] at h; exact ⟨x, y, rfl, rfl, h.symm⟩
  | x :: xs, y :: ys, i + 1, d, h => by
    have h' : (zipL xs ys)[i]? = some d := h
    obtain ⟨a, b, h1, h2, h3⟩ := zipL_get h'
    exact ⟨a, b, h1, h2, h3⟩
theorem zipL_len : ∀ {xs ys : List D}, (zipL xs ys).length = min xs.length ys.length
  | [], ys => by simp [zipL]
  | x :: xs, [] => by simp [zipL]
  | x :: xs, y :: ys => by simp only [zipL, List.length_cons, zipL_len (xs := xs) (ys := ys)]; omega
theorem two_line : 2 ≤ sizeLine := by decide
theorem walks_zl {K : PySem.W.Frag} {G : Hp} {a b : Addr} {xs ys : List V} {ds es : List D} (h : G a = some (.lst xs)) (r : RepL K G xs ds) (h' : G b = some (.lst ys)) (r' : RepL K G ys es) : Walks K G (Itz K a b) (zipL ds es) where
  go := fun T F σ G1 H δ i g s hi => by
    rw [zipL_len] at hi
    obtain ⟨d, hd⟩ : ∃ d, ds[i]? = some d := ⟨_, List.getElem?_eq_getElem (by omega)⟩
    obtain ⟨e, he⟩ : ∃ d, es[i]? = some d := ⟨_, List.getElem?_eq_getElem (by omega)⟩
    obtain ⟨v, h1, h2⟩ := r.get hd
    obtain ⟨w, h3, h4⟩ := r'.get he
    exact ⟨xs, ys, v, w, .of (s.sub _ _ (g _ _ h)), .of (s.sub _ _ (g _ _ h')), h1, h3⟩
  yld := fun T F σ G1 H δ i x H3 d g s hy hd => by
    obtain ⟨x1, y1, e1, e2, rfl⟩ := zipL_get hd
    obtain ⟨T, v1, v2, rfl, hT, rfl, q1, q2⟩ := hy
    obtain ⟨v, h1, h2⟩ := r.get e1
    obtain ⟨w, h3, h4⟩ := r'.get e2
    have z1 := q1 xs (.of (s.sub _ _ (g _ _ h)))
    have z2 := q2 ys (.of (s.sub _ _ (g _ _ h')))
    rw [h1] at z1
    rw [h3] at z2
    cases z1
    cases z2
    have gp := s.sub.free hT
    exact ⟨_, s.new hT, same_upd gp, .tup (.of upd_same) (.cons (h2.mono (g.trans (same_upd gp))) (.cons (h4.mono (g.trans (same_upd gp))) .nil))⟩
  stop := fun T F σ G1 H δ i g s hi => by
    rw [zipL_len] at hi
    refine ⟨xs, ys, .of (s.sub _ _ (g _ _ h)), .of (s.sub _ _ (g _ _ h')), ?_⟩
    rw [r.length, r'.length]
    omega
theorem walks_zt {K : PySem.W.Frag} {G : Hp} {a b : Addr} {xs ys : List V} {ds es : List D} (h : SqT K G a xs) (r : RepL K G xs ds) (h' : SqT K G b ys) (r' : RepL K G ys es) : Walks K G (RZ.ItzT K a b) (zipL ds es) where
  go := fun T F σ G1 H δ i g s hi => by
    rw [zipL_len] at hi
    obtain ⟨d, hd⟩ : ∃ d, ds[i]? = some d := ⟨_, List.getElem?_eq_getElem (by omega)⟩
    obtain ⟨e, he⟩ : ∃ d, es[i]? = some d := ⟨_, List.getElem?_eq_getElem (by omega)⟩
    obtain ⟨v, h1, h2⟩ := r.get hd
    obtain ⟨w, h3, h4⟩ := r'.get he
    exact ⟨xs, ys, v, w, seqT (g.trans s.sub) h, seqT (g.trans s.sub) h', h1, h3⟩
  yld := fun T F σ G1 H δ i x H3 d g s hy hd => by
    obtain ⟨x1, y1, e1, e2, rfl⟩ := zipL_get hd
    obtain ⟨T, v1, v2, rfl, hT, rfl, q1, q2⟩ := hy
    obtain ⟨v, h1, h2⟩ := r.get e1
    obtain ⟨w, h3, h4⟩ := r'.get e2
    have z1 := q1 xs (seqT (g.trans s.sub) h)
    have z2 := q2 ys (seqT (g.trans s.sub) h')
    rw [h1] at z1
    rw [h3] at z2
    cases z1
    cases z2
    have gp := s.sub.free hT
    exact ⟨_, s.new hT, same_upd gp, .tup (.of upd_same) (.cons (h2.mono (g.trans (same_upd gp))) (.cons (h4.mono (g.trans (same_upd gp))) .nil))⟩
  stop := fun T F σ G1 H δ i g s hi => by
    rw [zipL_len] at hi
    refine ⟨xs, ys, seqT (g.trans s.sub) h, seqT (g.trans s.sub) h', ?_⟩
    rw [r.length, r'.length]
    omega
def zipD : List D → Option (List D)
  | [.lst xs, .lst ys] => some (zipL xs ys)
  | [.tup xs, .tup ys] => some (zipL xs ys)
  | _ => none
theorem fi_zip {a b : Expr} {f : M (List D)} {p pos tpos : Pos} {elts : List Expr} {kk : Nat} (hm : c.mg "zip" = none) (ha : FA c [a, b] f) (hg : Gb c "zip" := by rfl)
    (hs : ∀ env : Env, starEach [a, b] env = (false, eval a env) :: starEach [b] env := by intro _; rfl) (hpl : ∀ env : Env, (backTo pos (starEach [b] env)).any (·.1) = false := by intro _; rfl) :
    FI c (.Tuple elts kk tpos) (.Call (.Name "zip" p) [a, b] [] pos) (itM zipD f) := by
  obtain ⟨t, pa, sa⟩ := ha.ex
  refine ⟨RZ.iZipA c.K t, fun X h => by have := RZ.pi_zipA (elts := elts) (kk := kk) (tpos := tpos) (p := p) (pos := pos) (show X.env.scope.names.lookup _ = _ by rw [h.sc]; exact hg) (by rw [h.mg]; exact hm) (pa X h) (hs _) (hpl _); rwa [h.K] at this, fun F σ G H δ r s e Q p => ?_⟩
  refine sa.step s e p fun G1 H1 δ1 x ds s1 g1 rx e1 p1 => ?_
  obtain ⟨d, hd, rfl⟩ := liftO_eq e1
  unfold zipD at hd
  split at hd
  · cases hd
    cases rx with
    | cons h t =>
      cases t with
      | cons h' t =>
        cases t
        cases h with
        | lst a1 b1 =>
          cases h' with
          | lst a2 b2 => exact ⟨_, _, _, _, rfl, .inl ⟨.of (s1.sub _ _ a1), .of (s1.sub _ _ a2), p1 G1 H1 _ s1 (Same.refl _) (walks_zl a1 b1 a2 b2)⟩⟩
  · cases hd
    cases rx with
    | cons h t =>
      cases t with
      | cons h' t =>
        cases t
        cases h with
        | tup a1 b1 =>
          cases h' with
          | tup a2 b2 => exact ⟨_, _, _, _, rfl, .inr ⟨seqT s1.sub a1, seqT s1.sub a2, p1 G1 H1 _ s1 (Same.refl _) (walks_zt a1 b1 a2 b2)⟩⟩
  · cases hd
/-- enumerate of a list -/
def enumFrom (k : Nat) : List D → List D
  | [] => []
  | x :: xs => .tup [.int (k : Nat), x] :: enumFrom (k + 1) xs
theorem enumFrom_len : ∀ {k : Nat} {xs : List D}, (enumFrom k xs).length = xs.length
  | _, [] => rfl
  | k, x :: xs => by simp only [enumFrom, List.length_cons, enumFrom_len]
theorem enumFrom_get : ∀ {k : Nat} {xs : List D} {i : Nat} {d : D}, (enumFrom k xs)[i]? = some d → ∃ x, xs[i]? = some x ∧ d = .tup [.int ((k + i : Nat) : Int), x]
  | _, [], i, d, h => by simp [enumFrom] at h
  | k, x :: xs, 0, d, h => by simp [enumFrom] at h; exact ⟨x, rfl, h.symm⟩
  | k, x :: xs, i + 1, d, h => by
    have h' : (enumFrom (k + 1) xs)[i]? = some d := h
    obtain ⟨y, h1, h2⟩ := enumFrom_get h'
    exact ⟨y, h1, by rw [h2, show k + 1 + i = k + (i + 1) by omega]⟩
theorem walks_e {K : PySem.W.Frag} {G : Hp} {a : Addr} {xs : List V} {ds : List D} (h : G a = some (.lst xs)) (r : RepL K G xs ds) : Walks K G (Ite K a) (enumFrom 0 ds) where
  go := fun T F σ G1 H δ i g s hi => by
    rw [enumFrom_len] at hi
    obtain ⟨d, hd⟩ : ∃ d, ds[i]? = some d := ⟨_, List.getElem?_eq_getElem hi⟩
    obtain ⟨v, h1, h2⟩ := r.get hd
    exact ⟨xs, v, .of (s.sub _ _ (g _ _ h)), h1⟩
  yld := fun T F σ G1 H δ i x H3 d g s hy hd => by
    obtain ⟨x1, e1, rfl⟩ := enumFrom_get hd
    obtain ⟨T, v1, rfl, hT, rfl, q1⟩ := hy
    obtain ⟨v, h1, h2⟩ := r.get e1
    have z1 := q1 xs (.of (s.sub _ _ (g _ _ h)))
    rw [h1] at z1
    cases z1
    have gp := s.sub.free hT
    rw [show 0 + i = i by omega]
    exact ⟨_, s.new hT, same_upd gp, .tup (.of upd_same) (.cons (.int _) (.cons (h2.mono (g.trans (same_upd gp))) .nil))⟩
  stop := fun T F σ G1 H δ i g s hi => by
    rw [enumFrom_len] at hi
    exact ⟨xs, .of (s.sub _ _ (g _ _ h)), by rw [r.length]; exact hi⟩
def enumD : List D → Option (List D)
  | [.lst xs] => some (enumFrom 0 xs)
  | _ => none
theorem fi_enum {a : Expr} {f : M (List D)} {p pos tpos : Pos} {elts : List Expr} {kk : Nat} (hm : c.mg "enumerate" = none) (ha : FA c [a] f) (hg : Gb c "enumerate" := by rfl) (hs : ∀ env : Env, starEach [a] env = [(false, eval a env)] := by intro _; rfl) :
    FI c (.Tuple elts kk tpos) (.Call (.Name "enumerate" p) [a] [] pos) (itM enumD f) := by
  obtain ⟨t, pa, sa⟩ := ha.ex
  refine ⟨iEnum c.K t, fun X h => by have := pi_enum (elts := elts) (kk := kk) (tpos := tpos) (p := p) (pos := pos) (show X.env.scope.names.lookup _ = _ by rw [h.sc]; exact hg) (by rw [h.mg]; exact hm) (pa X h) (hs _); rwa [h.K] at this, fun F σ G H δ r s e Q p => ?_⟩
  refine sa.step s e p fun G1 H1 δ1 x ds s1 g1 rx e1 p1 => ?_
  obtain ⟨d, hd, rfl⟩ := liftO_eq e1
  unfold enumD at hd
  split at hd
  · cases hd
    cases rx with
    | cons h t =>
      cases t
      cases h with
      | lst a1 b1 => exact ⟨_, _, rfl, .of (s1.sub _ _ a1), p1 G1 H1 _ s1 (Same.refl _) (walks_e a1 b1)⟩
  · cases hd

/-! ### targets -/
def Agr (is : List Nat) (σ σ' : L2.St) : Prop := σ'.length = σ.length ∧ ∀ j, j ∉ is → σ'[j]? = σ[j]?
theorem Agr.refl (is : List Nat) (σ : L2.St) : Agr is σ σ := ⟨rfl, fun _ _ => rfl⟩
theorem Agr.trans {is : List Nat} {a b d : L2.St} (x : Agr is a b) (y : Agr is b d) : Agr is a d := ⟨y.1.trans x.1, fun j h => (y.2 j h).trans (x.2 j h)⟩
theorem Agr.mono {is js : List Nat} {a b : L2.St} (x : Agr is a b) (h : ∀ j ∈ is, j ∈ js) : Agr js a b := ⟨x.1, fun j hj => x.2 j fun z => hj (h j z)⟩
structure FG (c : SC) (tg : Expr) (is : List Nat) (bd : D → De → Option De) : Prop where
  ex : ∃ g, (∀ X, In c X → PG X tg g) ∧ ∀ F σ G H δ v d δ', S c.κ F σ G H δ → Rep c.K G v d → bd d δ = some δ' → ∀ Q, (∀ σ', S c.κ F σ' G H δ' → Agr is σ σ' → Q σ' H) → g v σ H Q
structure FGs (c : SC) (tgs : List Expr) (is : List Nat) (bd : List D → De → Option De) : Prop where
  ex : ∃ g, (∀ X, In c X → PGs X tgs g) ∧ ∀ F σ G H δ vs ds δ', S c.κ F σ G H δ → RepL c.K G vs ds → bd ds δ = some δ' → ∀ Q, (∀ σ', S c.κ F σ' G H δ' → Agr is σ σ' → Q σ' H) → g vs σ H Q
  len : ∀ ds δ δ', bd ds δ = some δ' → ds.length = tgs.length
def bName (i : Nat) : D → De → Option De := fun d δ => some (δ.set i (.val d))
theorem Agr.set (i : Nat) (σ : L2.St) (v : Option V) : Agr [i] σ (σ.set i v) := ⟨by simp, fun j h => by rw [List.getElem?_set_ne]; simpa using Ne.symm (by simpa using h)⟩
theorem fg_name (i : Nat) {x : Str} {pos : Pos} (nd : c.N.Nodup) (hi : c.N[i]? = some x := by rfl) (hx : Loc c.sc x := by first | exact Or.inl rfl | exact Or.inr rfl) (hst : c.st x = true := by rfl) : FG c (.Name x pos) [i] (bName i) := by
  refine ⟨gName i, fun X h => pg_name (by rw [h.N]; exact nd) (by rw [h.N]; exact hi) (by rw [h.sc]; exact hx) (h.fn x hst), fun F σ G H δ v d δ' s r e Q q => ?_⟩
  cases e
  exact q _ (s.store i r) (Agr.set i σ _)
def bNil : List D → De → Option De := fun ds δ => match ds with | [] => some δ | _ => none
def bCons (b : D → De → Option De) (r : List D → De → Option De) : List D → De → Option De := fun ds δ => match ds with
  | d :: ds => match b d δ with
    | some δ' => r ds δ'
    | none => none
  | [] => none
theorem fgs_nil : FGs c [] [] bNil := by
  refine ⟨⟨gNil, fun _ _ => pgs_nil, fun F σ G H δ vs ds δ' s r e Q q => ?_⟩, fun ds δ δ' h => ?_⟩
  · cases ds with
    | nil => cases e; cases r; exact ⟨rfl, q _ s (Agr.refl _ _)⟩
    | cons _ _ => cases e
  · cases ds with
    | nil => rfl
    | cons _ _ => cases h
theorem fgs_cons {e : Expr} {es : List Expr} {is js : List Nat} {b : D → De → Option De} {r : List D → De → Option De} (h1 : FG c e is b) (h2 : FGs c es js r)
    (hs : ∀ env : Env, (assignEach (e :: es) env).map (·.2) = assign e env :: (assignEach es env).map (·.2) := by intro _; rfl) : FGs c (e :: es) (is ++ js) (bCons b r) := by
  obtain ⟨g1, p1, s1⟩ := h1.ex
  obtain ⟨g2, p2, s2⟩ := h2.ex
  refine ⟨⟨_, fun X h => pgs_cons (p1 X h) (p2 X h) (hs _), fun F σ G H δ vs ds δ' s rr e Q q => ?_⟩, fun ds δ δ' h => ?_⟩
  · cases rr with
    | nil => cases e
    | cons hv ht =>
      rename_i v vs d ds
      unfold bCons at e
      dsimp only at e
      cases hb : b d δ with
      | none => rw [hb] at e; cases e
      | some δ1 =>
        rw [hb] at e
        exact ⟨v, vs, rfl, s1 F σ G H δ v d δ1 s hv hb _ fun σ1 t1 a1 => s2 F σ1 G H δ1 vs ds δ' t1 ht e Q fun σ2 t2 a2 => q σ2 t2 ((a1.mono fun j hj => List.mem_append_left _ hj).trans (a2.mono fun j hj => List.mem_append_right _ hj))⟩
  · cases ds with
    | nil => cases h
    | cons d ds =>
      unfold bCons at h
      dsimp only at h
      cases hb : b d δ with
      | none => rw [hb] at h; cases h
      | some δ1 => rw [hb] at h; simp only [List.length_cons, h2.len ds δ1 δ' h]
def bTup (r : List D → De → Option De) : D → De → Option De := fun d δ => match seqOf d with
  | some ds => r ds δ
  | none => none
theorem pg_or {X : Cx} {tg : Expr} {t t' : TG} (h : PG X tg t) (h' : PG X tg t') : PG X tg (fun v σ H Q => t v σ H Q ∨ t' v σ H Q) :=
  ⟨fun pins s σ H v u Q I r q => q.elim (h.run pins s σ H v u Q I r) (h'.run pins s σ H v u Q I r)⟩
theorem fg_tup {es : List Expr} {is : List Nat} {r : List D → De → Option De} {k : Nat} {pos : Pos} (h : FGs c es is r)
    (hn : ∀ env : Env, (assignEach es env).length = es.length := by intro _; rfl) (hst : ∀ env : Env, (assignEach es env).findIdx? (·.1) = none := by intro _; rfl) : FG c (.Tuple es k pos) is (bTup r) := by
  obtain ⟨g, p, sp⟩ := h.ex
  refine ⟨fun v σ H Q => gTup c.K es.length g v σ H Q ∨ gUnl c.K es.length g v σ H Q, fun X h => by have := pg_or (pg_tup (k := k) (pos := pos) h.calm (p X h) (hn _) (hst _)) (pg_unl (k := k) (pos := pos) h.calm (p X h) (hn _) (hst _)); rwa [h.K] at this, fun F σ G H δ v d δ' s rr e Q q => ?_⟩
  unfold bTup at e
  cases d <;> simp only [seqOf, reduceCtorEq] at e
  · rename_i ds
    cases rr with
    | lst h1 h2 => exact .inr ⟨_, _, rfl, .of (s.sub _ _ h1), by rw [h2.length]; exact h.len _ _ _ e, sp F σ G H δ _ ds δ' s h2 e Q q⟩
  · rename_i ds
    cases rr with
    | tup h1 h2 => exact .inl ⟨_, _, rfl, seqT s.sub h1, by rw [h2.length]; exact h.len _ _ _ e, sp F σ G H δ _ ds δ' s h2 e Q q⟩
end
end FL

set_option Elab.async false
set_option linter.all false
set_option maxRecDepth 100000
set_option maxHeartbeats 2000000
/-! FL5: statements, defs. -/
namespace FL
open PySem PySem.Spec PyProof.Rows L2
inductive Out where
  | nx (δ : De) | rt (d : D) | ex (c : Nat) | bk (δ : De) | ct (δ : De)
abbrev Fo := De → Option Out
section
variable (κ : PySem.W.Frag × Tb) (cl : Nat → Addr) (E : XK) (F : Hp) (G : Hp)
def PostS (Dn : Ends) : Out → Prop
  | .nx δ' => ∀ σ' G' H', S κ F σ' G' H' δ' → Same G G' → Dn.nx σ' H'
  | .bk δ' => ∀ σ' G' H', S κ F σ' G' H' δ' → Same G G' → Dn.bk σ' H'
  | .ct δ' => ∀ σ' G' H', S κ F σ' G' H' δ' → Same G G' → Dn.ct σ' H'
  | .rt d => ∀ σ' G' H' δ' v, S κ F σ' G' H' δ' → Same G G' → Rep κ.1 G' v d → Dn.rt v H'
  | .ex c => ∀ G' H', Same G G' → Same G' H' → Same F H' → LamX.Tabs κ.2.1 H' → E (.ref (cl c)) none H'
end
def SpS (κ : PySem.W.Frag × Tb) (cl : Nat → Addr) (E : XK) (t : TS) (f : Fo) : Prop :=
  ∀ F σ G H δ o, S κ F σ G H δ → f δ = some o → ∀ Dn, PostS κ cl E F G Dn o → t Dn σ H
structure FS1 (c : SC) (st : Stmt) (f : Fo) : Prop where
  ex : ∃ t, (∀ X, In c X → PS X st t) ∧ SpS c.κ c.cl c.E t f
structure FS (c : SC) (sts : List Stmt) (f : Fo) : Prop where
  ex : ∃ t, (∀ X, In c X → PSs X sts t) ∧ SpS c.κ c.cl c.E t f
theorem PostS.weak {K : PySem.W.Frag} {T : Tb} {cl : Nat → Addr} {E : XK} {F G G1 : Hp} {Dn : Ends} (e : Same G G1) : ∀ {o : Out}, PostS (K, T) cl E F G Dn o → PostS (K, T) cl E F G1 Dn o
  | .nx _, h => fun σ' G' H' s g => h σ' G' H' s (e.trans g)
  | .bk _, h => fun σ' G' H' s g => h σ' G' H' s (e.trans g)
  | .ct _, h => fun σ' G' H' s g => h σ' G' H' s (e.trans g)
  | .rt _, h => fun σ' G' H' δ' v s g => h σ' G' H' δ' v s (e.trans g)
  | .ex _, h => fun G' H' g => h G' H' (e.trans g)
/-- an expression's outcome, then the rest -/
def thenS {α : Type} (m : M α) (k : α → Fo) : Fo := fun δ => match m δ with
  | none => none
  | some (.ex c) => some (.ex c)
  | some (.ok a δ') => k a δ'
@[simp] theorem thenS_pure {α : Type} (a : α) (k : α → Fo) : thenS (pureM a) k = k a := rfl
theorem Sp2.stepS {K : PySem.W.Frag} {T : Tb} {cl : Nat → Addr} {E : XK} {ν α : Type} {RA : Hp → ν → α → Prop} {ta : L2.St → Hp → (ν → Hp → Prop) → Prop} {fa : M α} (ha : Sp2 (K, T) cl E RA ta fa) {F : Hp} {σ : L2.St} {G H : Hp} {δ : De} {g : α → Fo} {o : Out} {Dn : Ends} {k : ν → Hp → Prop}
    (s : S (K, T) F σ G H δ) (e : thenS fa g δ = some o) (p : PostS (K, T) cl E F G Dn o)
    (hk : ∀ G' H' δ' x a, S (K, T) F σ G' H' δ' → Same G G' → RA G' x a → g a δ' = some o → PostS (K, T) cl E F G' Dn o → k x H') : ta σ H k := by
  unfold thenS at e
  cases h : fa δ with
  | none => rw [h] at e; cases e
  | some ra =>
    rw [h] at e
    refine ha F σ G H δ ra s h _ ?_
    cases ra with
    | ex c =>
      cases e
      exact p
    | ok a δ' => exact fun G' H' v s' g' rv => hk G' H' δ' v a s' g' rv e (p.weak g')
def nxS : Fo := fun δ => some (.nx δ)
def seqS (f g : Fo) : Fo := fun δ => match f δ with
  | some (.nx δ') => g δ'
  | o => o
section
variable {c : SC}
theorem fs_nil : FS c [] nxS := ⟨_, fun _ _ => pss_nil, fun F σ G H δ o s e Dn p => by cases e; exact p σ G H s (Same.refl _)⟩
theorem fs_one {st : Stmt} {f : Fo} (h : FS1 c st f) : FS c [st] f := by
  obtain ⟨t, p, s⟩ := h.ex
  exact ⟨t, fun X h => pss_one (p X h), s⟩
theorem fs_cons {st : Stmt} {r : List Stmt} {f g : Fo} (h : FS1 c st f) (h' : FS c r g) : FS c (st :: r) (seqS f g) := by
  obtain ⟨t, p, s⟩ := h.ex
  obtain ⟨t', p', s'⟩ := h'.ex
  refine ⟨_, fun X h => pss_cons (p X h) (p' X h), fun F σ G H δ o st e Dn q => ?_⟩
  unfold seqS at e
  cases h : f δ with
  | none => rw [h] at e; cases e
  | some o1 =>
    rw [h] at e
    refine s F σ G H δ o1 st h _ ?_
    cases o1 with
    | nx δ1 =>
      dsimp only at e
      exact fun σ1 G1 H1 s1 g1 => s' F σ1 G1 H1 δ1 o s1 e Dn (q.weak g1)
    | rt d => cases e; exact q
    | ex k => cases e; exact q
    | bk δ1 => cases e; exact q
    | ct δ1 => cases e; exact q
theorem fs_pass {pos} : FS1 c (.Pass pos) nxS := ⟨_, fun _ _ => ps_pass, fun F σ G H δ o s e Dn p => by cases e; exact p σ G H s (Same.refl _)⟩
theorem fs_break {pos} : FS1 c (.Break pos) (fun δ => some (.bk δ)) := ⟨_, fun _ _ => ps_break, fun F σ G H δ o s e Dn p => by cases e; exact p σ G H s (Same.refl _)⟩
theorem fs_continue {pos} : FS1 c (.Continue pos) (fun δ => some (.ct δ)) := ⟨_, fun _ _ => ps_continue, fun F σ G H δ o s e Dn p => by cases e; exact p σ G H s (Same.refl _)⟩
theorem fs_ret {e : Expr} {f : M D} {pos} (h : FE c e f) : FS1 c (.Return (some e) pos) (thenS f fun d _ => some (.rt d)) := by
  obtain ⟨t, pa, sa⟩ := h.ex
  refine ⟨_, fun X h => ps_ret (pa X h), fun F σ G H δ o s e Dn p => ?_⟩
  refine sa.stepS s e p fun G1 H1 δ1 x d s1 g1 rx e1 p1 => ?_
  cases e1
  exact p1 σ G1 H1 δ1 x s1 (Same.refl _) rx
theorem fs_retN {pos} : FS1 c (.Return none pos) (fun _ => some (.rt .non)) :=
  ⟨_, fun _ _ => ps_retN, fun F σ G H δ o s e Dn p => by cases e; exact p σ G H δ _ s (Same.refl _) .non⟩
theorem fs_if {e : Expr} {a b : List Stmt} {t : M Bool} {f g : Fo} {pos} (h : FT c e t) (ha : FS c a f) (hb : FS c b g) : FS1 c (.If e a b pos) (thenS t fun k => if k then f else g) := by
  obtain ⟨tt, pt, st⟩ := h.ex
  obtain ⟨ta, pa, sa⟩ := ha.ex
  obtain ⟨tb, pb, sb⟩ := hb.ex
  refine ⟨_, fun X h => ps_if (pt X h) (pa X h) (pb X h), fun F σ G H δ o s e Dn p => ?_⟩
  refine st.stepS s e p fun G1 H1 δ1 x k s1 g1 rx e1 p1 => ?_
  have ek : x = k := rx
  subst ek
  cases x with
  | true => rw [if_pos rfl]; exact sa F σ G1 H1 δ1 o s1 e1 Dn p1
  | false => rw [if_neg Bool.false_ne_true]; exact sb F σ G1 H1 δ1 o s1 e1 Dn p1
/-- x = e -/
theorem fs_set (i : Nat) {x : Str} {e : Expr} {f : M D} {pos pos' : Pos} (nd : c.N.Nodup) (he : FE c e f) (hi : c.N[i]? = some x := by rfl) (hx : Loc c.sc x := by first | exact Or.inl rfl | exact Or.inr rfl) (hst : c.st x = true := by rfl)
    (hs : ∀ env : Env, env.scope = c.sc → swapsWith e (some (.Name x pos')) pos.line env = pure false := by intro _ _; rfl) : FS1 c (.Assign [.Name x pos'] e pos) (thenS f fun d δ => some (.nx (δ.set i (.val d)))) := by
  obtain ⟨t, pa, sa⟩ := he.ex
  refine ⟨_, fun X h => ps_set (i := i) (by rw [h.N]; exact nd) (by rw [h.N]; exact hi) (by rw [h.sc]; exact hx) (pa X h) (hs _ h.sc) (h.fn x hst), fun F σ G H δ o s e Dn p => ?_⟩
  refine sa.stepS s e p fun G1 H1 δ1 v d s1 g1 rx e1 p1 => ?_
  cases e1
  exact p1 _ G1 H1 (s1.store i rx) (Same.refl _)
/-- x = [..], a list of one's own -/
theorem fs_setOwn (i : Nat) {x : Str} {es : List Expr} {f : M (List D)} {pos pos' p2 : Pos} (nd : c.N.Nodup) (he : FA c es f) (hi : c.N[i]? = some x := by rfl) (hx : Loc c.sc x := by first | exact Or.inl rfl | exact Or.inr rfl) (hst : c.st x = true := by rfl)
    (hs : ∀ env : Env, env.scope = c.sc → swapsWith (.List es p2) (some (.Name x pos')) pos.line env = pure false := by intro _ _; rfl) : FS1 c (.Assign [.Name x pos'] (.List es p2) pos) (thenS f fun ds δ => if ds.length ≤ 1000000 then some (.nx (δ.set i (.own ds))) else none) := by
  obtain ⟨t, pa, sa⟩ := he.ex
  refine ⟨_, fun X h => ps_set (i := i) (by rw [h.N]; exact nd) (by rw [h.N]; exact hi) (by rw [h.sc]; exact hx) (pe_lst (pa X h)) (hs _ h.sc) (h.fn x hst), fun F σ G H δ o s e Dn p => ?_⟩
  refine sa.stepS s e p fun G1 H1 δ1 vs ds s1 g1 rx e1 p1 => ?_
  split at e1
  · rename_i hl
    cases e1
    exact ⟨by rw [rx.length]; exact small6 hl, fun q hq => p1 _ G1 _ (s1.storeOwn i hq rx) (Same.refl _)⟩
  · cases e1
/-- a, b = e (not two displays) -/
theorem fs_asg {tg e : Expr} {f : M D} {is : List Nat} {bd : D → De → Option De} {pos : Pos} (he : FE c e f) (hg : FG c tg is bd)
    (hs : ∀ env : Env, env.scope = c.sc → swapsWithSole [tg] e pos.line env = pure false := by intro _ _; rfl) (hw : ∀ env : Env, env.scope = c.sc → swappedStores [tg] e env = pure none := by intro _ _; rfl)
    (h1 : ∀ env : Env, (assignEach [tg] env).map (·.2) = [assign tg env] := by intro _; rfl) : FS1 c (.Assign [tg] e pos) (thenS f fun d δ => (bd d δ).map .nx) := by
  obtain ⟨t, pa, sa⟩ := he.ex
  obtain ⟨g, pg, sg⟩ := hg.ex
  refine ⟨_, fun X h => ps_asg (pa X h) (pg X h) (hs _ h.sc) (hw _ h.sc) (h1 _), fun F σ G H δ o s e Dn p => ?_⟩
  refine sa.stepS s e p fun G1 H1 δ1 v d s1 g1 rx e1 p1 => ?_
  cases hb : bd d δ1 with
  | none => rw [hb] at e1; cases e1
  | some δ2 =>
    rw [hb] at e1
    cases e1
    exact sg F σ G1 H1 δ1 v d δ2 s1 rx hb _ fun σ' s' a => p1 σ' G1 H1 s' (Same.refl _)
/-- a, b = x, y -/
theorem fs_par (i j : Nat) {x y : Str} {a b : Expr} {f : M (List D)} {px py pt : Pos} {kt k2 pt2} {pos : Pos} (nd : c.N.Nodup) (ha : FA c [a, b] f) (hi : c.N[i]? = some x := by rfl) (hj : c.N[j]? = some y := by rfl) (hij : i ≠ j := by decide)
    (hx : c.sc.names.lookup x = some .local := by rfl) (hy : c.sc.names.lookup y = some .local := by rfl)
    (hw : ∀ env : Env, env.scope = c.sc → swappedStores [.Tuple [.Name x px, .Name y py] kt pt] (.Tuple [a, b] k2 pt2) env = pure (some [x, y]))
    (hs : ∀ env : Env, env.scope = c.sc → swapsWithSole [.Tuple [.Name x px, .Name y py] kt pt] (.Tuple [a, b] k2 pt2) pos.line env = pure false := by intro _ _; rfl) :
    FS1 c (.Assign [.Tuple [.Name x px, .Name y py] kt pt] (.Tuple [a, b] k2 pt2) pos) (thenS f fun ds δ => match ds with | [d, e] => some (.nx ((δ.set i (.val d)).set j (.val e))) | _ => none) := by
  obtain ⟨t, pa, sa⟩ := ha.ex
  refine ⟨_, fun X h => ps_par h.calm (by rw [h.N]; exact nd) (by rw [h.N]; exact hi) (by rw [h.N]; exact hj) hij (by rw [h.sc]; exact hx) (by rw [h.sc]; exact hy) (pa X h) (hw _ h.sc) (hs _ h.sc), fun F σ G H δ o s e Dn p => ?_⟩
  refine sa.stepS s e p fun G1 H1 δ1 vs ds s1 g1 rx e1 p1 => ?_
  split at e1
  · cases e1
    cases rx with
    | cons h t =>
      cases t with
      | cons h' t =>
        cases t
        exact ⟨_, _, rfl, p1 _ G1 H1 ((s1.store i h).store j h') (Same.refl _)⟩
  · cases e1
/-- an expression alone -/
theorem fs_expr {e : Expr} {f : M D} {pos : Pos} (he : FE c e f) (hs : ∀ env : Env, env.scope = c.sc → swapsWith e none pos.line env = pure false := by intro _ _; rfl) : FS1 c (.Expr e pos) (thenS f fun _ => nxS) := by
  obtain ⟨t, pa, sa⟩ := he.ex
  refine ⟨_, fun X h => ps_expr (pa X h) (hs _ h.sc), fun F σ G H δ o s e Dn p => ?_⟩
  refine sa.stepS s e p fun G1 H1 δ1 v d s1 g1 rx e1 p1 => ?_
  cases e1
  exact p1 _ G1 H1 s1 (Same.refl _)
def ownAt (δ : De) (i : Nat) : Option (List D) := match δ[i]? with
  | some (.own xs) => some xs
  | _ => none
theorem ownAt_some {δ : De} {i : Nat} {xs : List D} (h : ownAt δ i = some xs) : δ[i]? = some (.own xs) := by
  unfold ownAt at h
  split at h
  · rename_i q; cases h; exact q
  · cases h
def appS (i : Nat) (f : M D) : Fo := fun δ => match ownAt δ i with
  | none => none
  | some _ => thenS f (fun d δ => match ownAt δ i with
    | some xs => if xs.length < 1000000 then some (.nx (δ.set i (.own (xs ++ [d])))) else none
    | none => none) δ
theorem lt6 {n : Nat} (h : n < 1000000) : n < sizeLine := by rw [sizeLine_eq]; omega
/-- x.append(e), x a list of one's own -/
theorem fs_append (i : Nat) {x : Str} {e : Expr} {f : M D} {p1 p2 p3 pos : Pos} (he : FE c e f) (hN : c.N[i]? = some x := by rfl) (hv : Vis c.sc x := by first | exact Or.inl rfl | exact Or.inr (Or.inl rfl) | exact Or.inr (Or.inr rfl))
    (hd : (x == ("__debug__" : Str)) = false := by decide) (hcd : (x == ("__classdict__" : Str)) = false := by decide)
    (hst : ∀ env : Env, starEach [e] env = (false, eval e env) :: starEach [] env := by intro _; rfl) (hpl : ∀ env : Env, (backTo p3 (starEach [] env)).any (·.1) = false := by intro _; rfl)
    (hb : ∀ env : Env, attributeBase (.Name x p1) "append" env (eval (.Name x p1) env) = eval (.Name x p1) env := by intro _; rfl)
    (hfew : ∀ env : Env, ((backTo p3 (starEach [e] env)).all (fun x => !x.1) && (backToKw p3 (keywordEach [] env)).all (fun x => x.1.isSome) && decide (([e] : List Expr).length + ([] : List Keyword).length + (if ([] : List Keyword).isEmpty then 0 else 1) < 30)) = true := by intro _; rfl)
    (hl : (p2.endLine == p3.line) = true := by rfl)
    (hs : ∀ env : Env, env.scope = c.sc → swapsWith (.Call (.Attribute (.Name x p1) "append" p2) [e] [] p3) none pos.line env = pure false := by intro _ _; rfl) :
    FS1 c (.Expr (.Call (.Attribute (.Name x p1) "append" p2) [e] [] p3) pos) (appS i f) := by
  obtain ⟨t, pa, sa⟩ := he.ex
  refine ⟨tDrop (tBM c.K "list" rAppend (tVar i) (tCons t tNil)), fun X h => ?_, fun F σ G H δ o s e Dn p => ?_⟩
  · have q := pe_bm (X := X) PySem.F.plainAttrs_list PySem.F.slot_list_append PySem.F.type_list_append mt_append (pe_var (i := i) (x := x) (pos := p1) (by rw [h.N]; exact hN) (by rw [h.sc]; exact hv) hd hcd) (pa_cons (pa X h) pa_nil (hst _)) (hb _) (hfew _) hl (hst _) (hpl _)
    rw [h.K] at q
    exact ps_expr q (hs _ h.sc)
  · unfold appS at e
    cases h0 : ownAt δ i with
    | none => rw [h0] at e; cases e
    | some xs0 =>
      rw [h0] at e
      dsimp only at e
      obtain ⟨q, vs, e1, e2, e3, e4, e5⟩ := s.own i xs0 (ownAt_some h0)
      refine ⟨_, e1, .inl ⟨rfl, _, .inl (.inl e2)⟩, ?_⟩
      refine sa.stepS s e p fun G1 H1 δ1 v d s1 g1 rx e1' p1 => ?_
      cases h1 : ownAt δ1 i with
      | none => rw [h1] at e1'; cases e1'
      | some xs =>
        rw [h1] at e1'
        dsimp only at e1'
        split at e1'
        · rename_i hl
          cases e1'
          obtain ⟨q', ws, f1, f2, f3, f4, f5⟩ := s1.own i xs (ownAt_some h1)
          rw [e1] at f1
          cases f1
          refine ⟨_, ws, v, rfl, rfl, f2, by rw [f3.length]; exact lt6 hl, ?_⟩
          exact p1 σ G1 _ (s1.setOwn (ownAt_some h1) e1 (f3.append (.cons rx .nil))) (Same.refl _)
        · cases e1'
/-- x[k] = e, x a list of one's own -/
def setIxS (i : Nat) (f g : M D) : Fo := thenS f fun d δ => match ownAt δ i with
  | none => none
  | some _ => thenS g (fun k δ => match k, ownAt δ i with
    | .int k, some xs => match ixN xs.length k with
      | some j => some (.nx (δ.set i (.own (xs.set j d))))
      | none => none
    | _, _ => none) δ
theorem fs_setIx (i : Nat) {x : Str} {e k : Expr} {f g : M D} {p1 p2 pos : Pos} (he : FE c e f) (hk : FE c k g) (hN : c.N[i]? = some x := by rfl) (hv : Vis c.sc x := by first | exact Or.inl rfl | exact Or.inr (Or.inl rfl) | exact Or.inr (Or.inr rfl))
    (hd : (x == ("__debug__" : Str)) = false := by decide) (hcd : (x == ("__classdict__" : Str)) = false := by decide)
    (ha : ∀ (env : Env) v, assign (.Subscript (.Name x p1) k p2) env v = (do
      let ov ← holding [v] (eval (.Name x p1) env)
      let iv ← holding [v, ov] (eval k env)
      standAt p2
      holding [v, ov, iv] (setItem ov iv v)
      release [v, ov, iv] []) := by intro _ _; rfl)
    (hs : ∀ env : Env, env.scope = c.sc → swapsWithSole [.Subscript (.Name x p1) k p2] e pos.line env = pure false := by intro _ _; rfl) (hw : ∀ env : Env, env.scope = c.sc → swappedStores [.Subscript (.Name x p1) k p2] e env = pure none := by intro _ _; rfl)
    (h1 : ∀ env : Env, (assignEach [.Subscript (.Name x p1) k p2] env).map (·.2) = [assign (.Subscript (.Name x p1) k p2) env] := by intro _; rfl) :
    FS1 c (.Assign [.Subscript (.Name x p1) k p2] e pos) (setIxS i f g) := by
  obtain ⟨t, pa, sa⟩ := he.ex
  obtain ⟨tk, pk, sk⟩ := hk.ex
  refine ⟨_, fun X h => ps_asg (pa X h) (pg_sub (pe_var (i := i) (x := x) (pos := p1) (by rw [h.N]; exact hN) (by rw [h.sc]; exact hv) hd hcd) (pk X h) set_list (ha _)) (hs _ h.sc) (hw _ h.sc) (h1 _), fun F σ G H δ o s e Dn p => ?_⟩
  refine sa.stepS s e p fun G1 H1 δ1 v d s1 g1 rx e1 p1 => ?_
  cases h0 : ownAt δ1 i with
  | none => rw [h0] at e1; cases e1
  | some xs0 =>
    rw [h0] at e1
    dsimp only at e1
    obtain ⟨q, vs, q1, q2, q3, q4, q5⟩ := s1.own i xs0 (ownAt_some h0)
    refine ⟨_, q1, ?_⟩
    refine sk.stepS s1 e1 p1 fun G2 H2 δ2 u k s2 g2 ry e2 p2 => ?_
    cases k <;> try (cases e2)
    rename_i kk
    cases ry
    cases h2 : ownAt δ2 i with
    | none => rw [h2] at e2; cases e2
    | some xs =>
      rw [h2] at e2
      dsimp only at e2
      cases h3 : ixN xs.length kk with
      | none => rw [h3] at e2; cases e2
      | some j =>
        rw [h3] at e2
        cases e2
        obtain ⟨q', ws, f1, f2, f3, f4, f5⟩ := s2.own i xs (ownAt_some h2)
        rw [q1] at f1
        cases f1
        refine ⟨_, ws, kk, j, rfl, rfl, f2, by rw [f3.length]; exact h3, ?_⟩
        exact p2 σ G2 _ (s2.setOwn (ownAt_some h2) q1 (f3.set (rx.mono g2) j)) (Same.refl _)
/-- a list of one's own is read as a value from now on: no step of the program -/
def freezeS (i : Nat) (f : Fo) : Fo := fun δ => match ownAt δ i with
  | some xs => f (δ.set i (.val (.lst xs)))
  | none => none
theorem fs_freeze (i : Nat) {sts : List Stmt} {f : Fo} (h : FS c sts f) : FS c sts (freezeS i f) := by
  obtain ⟨t, p, sp⟩ := h.ex
  refine ⟨t, p, fun F σ G H δ o s e Dn q => ?_⟩
  unfold freezeS at e
  cases h0 : ownAt δ i with
  | none => rw [h0] at e; cases e
  | some xs =>
    rw [h0] at e
    obtain ⟨a, vs, h1, h2, h3, h4, s'⟩ := s.freeze (ownAt_some h0)
    exact sp F σ _ H _ o s' e Dn (q.weak (same_upd h2))
/-- x op= e, ints -/
theorem fs_aug (i : Nat) {x : Str} {op : Operator} {g : Int → Int → Int} {e : Expr} {f : M D} {pos pos' : Pos} (nd : c.N.Nodup) (he : FE c e f) (ho : ∀ X, In c X → PIp X op (ipI g)) (hi : c.N[i]? = some x := by rfl) (hx : Loc c.sc x := by first | exact Or.inl rfl | exact Or.inr rfl) (hst : c.st x = true := by rfl) :
    FS1 c (.AugAssign (.Name x pos') op e pos) (thenS (bindM (varM i) fun a => bindM f fun b => liftO (int2 (fun i j => .int (g i j)) a b)) fun d δ => some (.nx (δ.set i (.val d)))) := by
  obtain ⟨t, pa, sa⟩ := he.ex
  refine ⟨_, fun X h => ps_aug (i := i) (by rw [h.N]; exact nd) (by rw [h.N]; exact hi) (by rw [h.sc]; exact hx) (pa X h) (ho X h) (h.fn x hst), fun F σ G H δ o s e Dn p => ?_⟩
  unfold thenS at e
  cases hv : varM i δ with
  | none => unfold bindM at e; rw [hv] at e; cases e
  | some ra =>
    cases ra with
    | ex k => unfold varM at hv; split at hv <;> cases hv
    | ok a δ' =>
      have ed : δ' = δ ∧ δ[i]? = some (.val a) := by
        unfold varM at hv
        split at hv
        · rename_i d hd; cases hv; exact ⟨rfl, hd⟩
        · cases hv
      obtain ⟨rfl, hd⟩ := ed
      rw [bindM_ok hv] at e
      obtain ⟨v, h1, h2⟩ := s.val i a hd
      refine ⟨v, h1, ?_⟩
      have e' : thenS (bindM f fun b => liftO (int2 (fun i j => .int (g i j)) a b)) (fun d δ => some (Out.nx (δ.set i (.val d)))) δ' = some o := e
      have sb : Sp2 c.κ c.cl c.E (Rep c.K) t f := sa
      -- f, then the operator
      have e2 : thenS f (fun b => thenS (liftO (int2 (fun i j => .int (g i j)) a b)) (fun d δ => some (Out.nx (δ.set i (.val d))))) δ' = some o := by
        rw [← e']
        unfold thenS bindM
        cases f δ' with
        | none => rfl
        | some rb => cases rb <;> rfl
      refine sb.stepS s e2 p fun G1 H1 δ1 u b s1 g1 ry e3 p1 => ?_
      cases hb : int2 (fun i j => .int (g i j)) a b with
      | none => rw [hb] at e3; cases e3
      | some d =>
        rw [hb] at e3
        cases e3
        unfold int2 at hb
        split at hb
        · cases hb
          cases h2
          cases ry
          exact ⟨_, _, rfl, rfl, p1 _ G1 H1 (s1.store i (.int _)) (Same.refl _)⟩
        · cases hb
/-! raise X('..') -/
structure ExcC (K : PySem.W.Frag) (mg : Str → Option Value) (x : Str) (C : Addr) : Prop where
  g : mg x = some (.ref C)
  x : PySem.W.excIn K C [.type "ValueError", .type "Exception", .type "BaseException", .type "object"] "ValueError.__new__" = true
  k : PySem.W.keepIn K (.ref C) = true
  b : PySem.W.subIn K (.ref C) (.type "BaseException") = some true
  t : PySem.W.typeIn K (.ref C) = some (.type "type")
theorem fs_raise (n : Nat) {x m : Str} {j : Nat} {p p2 p3 pos : Pos} (h : ExcC c.K c.mg x (c.cl n)) (hg : Gb c x := by rfl) (hdb : (x == ("__debug__" : Str)) = false := by decide) (hst : c.st "" = true := by rfl) :
    FS1 c (.Raise (some (.Call (.Name x p) [.Constant (.str m) j p2] [] p3)) none pos) (fun _ => some (.ex n)) := by
  refine ⟨_, fun X q => ps_raise q.calm (q.tk hst).1 (pmk_own PySem.F.excBase_ValueError (by rw [q.K]; exact h.x) (by rw [q.mg]; exact h.g) (by rw [q.K]; exact h.k) (raises_own (by rw [q.K]; exact h.b) (by rw [q.K]; exact h.t)) (show X.env.scope.names.lookup _ = _ by rw [q.sc]; exact hg) hdb), fun F σ G H δ o s e Dn p => ?_⟩
  cases e
  exact p G H (Same.refl _) s.sub s.frm s.tab
/-! for -/
def forD (bd : D → De → Option De) (body : Fo) : List D → Fo
  | [], δ => some (.nx δ)
  | x :: r, δ => match bd x δ with
    | none => none
    | some δ1 => match body δ1 with
      | some (.nx δ2) => forD bd body r δ2
      | some (.ct δ2) => forD bd body r δ2
      | some (.bk δ2) => some (.nx δ2)
      | o => o
theorem fs_for {tg iter : Expr} {body : List Stmt} {items : M (List D)} {is : List Nat} {bd : D → De → Option De} {f : Fo} {pos : Pos} (hi : FI c tg iter items) (hg : FG c tg is bd) (hb : FS c body f)
    (hs : ∀ (env : Env) x, foldedSetIterable iter env x = pure x := by intro _ _; rfl) (hs0 : c.st "" = true := by rfl) : FS1 c (.For tg iter body [] pos) (thenS items fun ds => forD bd f ds) := by
  obtain ⟨wi, pi, si⟩ := hi.ex
  obtain ⟨g, pg, sg⟩ := hg.ex
  obtain ⟨t, pb, sb⟩ := hb.ex
  refine ⟨_, fun X h => ps_for (h.po hs0) h.calm (pi X h) (pg X h) (pb X h) (hs _), fun F σ G H δ o s e Dn p => ?_⟩
  refine si.stepS s e p fun G1 H1 δ1 J ds s1 g1 W e1 p1 => ?_
  refine ⟨fun i m σ H => m = ds.length - i ∧ i ≤ ds.length ∧ ∃ G2 δ2, Same G1 G2 ∧ S c.κ F σ G2 H δ2 ∧ forD bd f (ds.drop i) δ2 = some o, ⟨ds.length, by simp, Nat.zero_le _, G1, δ1, Same.refl _, s1, e1⟩, ?_⟩
  rintro i m σ2 H2 ⟨rfl, hi, G2, δ2, g2, s2, e2⟩
  by_cases hl : i < ds.length
  · have hd : ds[i]? = some ds[i] := List.getElem?_eq_getElem hl
    have edr : ds.drop i = ds[i] :: ds.drop (i + 1) := (List.drop_eq_getElem_cons hl)
    rw [edr, forD] at e2
    cases hbd : bd ds[i] δ2 with
    | none => rw [hbd] at e2; cases e2
    | some δ3 =>
      rw [hbd] at e2
      dsimp only at e2
      refine .inr ⟨W.go _ F σ2 G2 H2 δ2 i g2 s2 hl, fun σ' H' => ∃ G5 δ5, Same G1 G5 ∧ S c.κ F σ' G5 H' δ5 ∧ forD bd f (ds.drop (i + 1)) δ5 = some o, fun σ' H' ⟨G5, δ5, z1, z2, z3⟩ => ⟨ds.length - (i + 1), by omega, rfl, hl, G5, δ5, z1, z2, z3⟩, fun x H3 hy => ?_⟩
      obtain ⟨G3, s3, g3, rx⟩ := W.yld _ F σ2 G2 H2 δ2 i x H3 _ g2 s2 hy hd
      refine sg F σ2 G3 H3 δ2 x _ δ3 s3 rx hbd _ fun σ3 s4 _ => ?_
      have g13 : Same G1 G3 := g2.trans g3
      cases hf : f δ3 with
      | none => rw [hf] at e2; cases e2
      | some o1 =>
        rw [hf] at e2
        refine sb F σ3 G3 H3 δ3 o1 s4 hf _ ?_
        cases o1 with
        | nx δ4 => exact fun σ' G' H' s' g' => ⟨G', δ4, g13.trans g', s', e2⟩
        | ct δ4 => exact fun σ' G' H' s' g' => ⟨G', δ4, g13.trans g', s', e2⟩
        | bk δ4 => cases e2; exact fun σ' G' H' s' g' => p1 σ' G' H' s' (g13.trans g')
        | rt d => cases e2; exact fun σ' G' H' δ' v s' g' rv => p1 σ' G' H' δ' v s' (g13.trans g') rv
        | ex k => cases e2; exact fun G' H' g' => p1 G' H' (g13.trans g')
  · have ei : i = ds.length := by omega
    subst ei
    rw [List.drop_length] at e2
    cases e2
    exact .inl ⟨W.stop _ F σ2 G2 H2 δ2 _ g2 s2 (Nat.le_refl _), p1 σ2 G2 H2 s2 g2⟩
end

/-! ### defs -/
def startD (N : List Str) (ds : List D) : De := ds.map Sl.val ++ List.replicate (N.length - ds.length) Sl.un
def outRes : Option Out → Option Res
  | some (.rt d) => some (.ret d)
  | some (.nx _) => some (.ret .non)
  | some (.ex k) => some (.ex k)
  | _ => none
def defF (N : List Str) (n : Nat) (f : Fo) : DF := fun ds => if ds.length = n then outRes (f (startD N ds)) else none
theorem start_len {N : List Str} {vs : List V} (h : vs.length ≤ N.length) : (L2.start N vs).length = N.length := by
  unfold L2.start; simp; omega
theorem startD_len {N : List Str} {ds : List D} (h : ds.length ≤ N.length) : (startD N ds).length = N.length := by
  unfold startD; simp; omega
theorem TabsIn.tnf {T : List (Addr × Str)} {F G H : Hp} (t : TabsIn T F H) (sub : Same G H) (ng : ∀ b ps, G b ≠ some (.tbl ps)) : ∀ p ∈ T, F p.1 = none ∧ G p.1 = none := fun x hx => ⟨t.2 x hx, by
  obtain ⟨ps, hp, _⟩ := t.1 x hx
  cases q : G x.1 with
  | none => rfl
  | some o =>
    have := sub _ _ q
    rw [hp] at this
    cases this
    exact absurd q (ng _ _)⟩
theorem S.start {K : PySem.W.Frag} {T : List (Addr × Str)} {F G H : Hp} {N : List Str} {vs : List V} {ds : List D} (sub : Same G H) (frm : Same F H) (dis : ∀ b o, F b = some o → G b = none) (ng : ∀ b ps, G b ≠ some (.tbl ps)) (nf : ∀ b ps, F b ≠ some (.tbl ps)) (tb : TabsIn T F H) (r : RepL K G vs ds) (h : ds.length ≤ N.length) : S (K, (T, false)) F (L2.start N vs) G H (startD N ds) := by
  have hv : vs.length ≤ N.length := by rw [r.length]; exact h
  have vl : ∀ (i : Nat) d, (startD N ds)[i]? = some (.val d) → ds[i]? = some d := fun i d e => by
    unfold startD at e
    rw [List.getElem?_append] at e
    split at e
    · rw [List.getElem?_map] at e
      cases q : ds[i]? with
      | none => rw [q] at e; cases e
      | some d' => rw [q] at e; cases e; rfl
    · rw [List.getElem?_replicate] at e
      split at e <;> cases e
  have no : ∀ (i : Nat) xs, (startD N ds)[i]? ≠ some (.own xs) := fun i xs e => by
    unfold startD at e
    rw [List.getElem?_append] at e
    split at e
    · rw [List.getElem?_map] at e
      cases q : ds[i]? with
      | none => rw [q] at e; cases e
      | some d' => rw [q] at e; cases e
    · rw [List.getElem?_replicate] at e
      split at e <;> cases e
  refine ⟨sub, frm, dis, by rw [startD_len h, start_len hv], fun i d e => ?_, fun i xs e => absurd e (no i xs), fun i j xs ys _ e => absurd e (no i xs), tb.1, tb.tnf sub ng, ng, nf, fun z => nomatch z⟩
  obtain ⟨v, h1, h2⟩ := r.get (vl i d e)
  refine ⟨v, ?_, h2⟩
  unfold L2.start
  rw [List.getElem?_append_left (by
    have := List.getElem?_eq_some_iff.mp h1
    obtain ⟨z, _⟩ := this
    simpa using z), List.getElem?_map, h1]
  rfl
/-- a def of the text; where it makes generators, its code object too -/
structure FunQ (K : PySem.W.Frag) (x q : Str) (st : Stmt) (a : Addr) (fd : FuncData) (code : Value) (qual : Str) : Prop where
  ex : ∃ (oc : Value) (od : Option Addr) (kV doc pm : Value) (an : Option Addr) (cdv ct : Value) (osl : Array (Option Value)), fd = PySem.W.fnOf x q (defArgs st) (defBody st) (defScope st) .none kV doc pm an cdv ct ∧ K.lookup a = some ⟨oc, od, .func fd, osl⟩ ∧ PySem.W.codeIn K cdv q = true ∧ (code = .none ∨ (cdv = code ∧ q ++ ".<locals>." = qual))
  kp : PySem.W.keepIn K (.ref a) = true
theorem Fun.q {K : PySem.W.Frag} {x q : Str} {st : Stmt} {a : Addr} {fd : FuncData} (h : Fun K x q st a fd) : FunQ K x q st a fd .none "" := by
  obtain ⟨oc, od, kV, doc, pm, an, cdv, ct, osl, e, lk, hcd⟩ := h.ex
  exact ⟨⟨oc, od, kV, doc, pm, an, cdv, ct, osl, e, lk, hcd, .inl rfl⟩, h.kp⟩
theorem FunQ.okX {P : Program} {w : World} {K : PySem.W.Frag} {mg : Str → Option Value} {base : Heap} {x q : Str} {st : Stmt} {a : Addr} {fd : FuncData} {code : Value} {qual : Str} {N ps : List Str} {k : Nat} {sp : Sp} (F : FunQ K x q st a fd code qual) (S : FnScope N ps (defScope st)) (len : ∀ vs H Q E, sp vs H Q E → vs.length = ps.length)
    (hbody : ∀ (cdv : Value) (A : Around) (outer : List Env) (s : Shared) (H : Hp) (vs : List V) (Q : VK) (E : XK), Room k (A.deeper (envOfC q (defScope st) s.heap.objs.size a cdv)) → (code = .none ∨ (cdv = code ∧ q ++ ".<locals>." = qual)) → sp vs H Q E →
      ∃ t, PSs (cxOf (L2.CX P w) P w K mg base N q (defScope st) a cdv A outer s H E) (defBody st) t ∧ t { nx := fun _ H' => Q .non H', rt := Q } (L2.start N vs) H) : FnOk P w K mg base (L2.CX P w) (k + 1) a fd ps sp := by
  obtain ⟨oc, od, kV, doc, pm, an, cdv, ct, osl, rfl, lk, hcd, hq⟩ := F.ex
  exact fn_of lk hcd S len fun A outer s H vs Q E hr hsp => hbody cdv A outer s H vs Q E hr hq hsp
theorem fnOk {P : Program} {w : World} {K : PySem.W.Frag} {mg : Str → Option Value} {base : Heap} {cl : Nat → Addr} {T : List (Addr × Str)} {k : Nat} {x q : Str} {st : Stmt} {a : Addr} {fd : FuncData} {code : Value} {qual : Str} {N ps : List Str} {f : Fo} (Fn : FunQ K x q st a fd code qual) (Sc : FnScope N ps (defScope st)) (hN : ps.length ≤ N.length)
    (body : ∀ E : XK, FS ⟨P, w, K, mg, base, N, defScope st, k, cl, E, fun _ => true, (T, false), code, qual⟩ (defBody st) f) : FnOk P w K mg base (L2.CX P w) (k + 1) a fd ps (spD K cl T (defF N ps.length f)) := by
  refine Fn.okX Sc (fun vs H Q E h => ?_) (fun cdv A outer s H vs Q E hr hq h => ?_)
  · obtain ⟨F, G, ds, r, _, _, _, _, _, _, h1, h2, _⟩ := h
    unfold defF at h2
    split at h2
    · rename_i q; rw [h1.length, q]
    · cases h2
  · obtain ⟨F, G, ds, r, sub, frm, dis, ng, nf, tb, h1, h2, post⟩ := h
    unfold defF at h2
    split at h2
    · rename_i q
      obtain ⟨t, pt, sp⟩ := (body E).ex
      refine ⟨t, pt _ ⟨rfl, rfl, rfl, rfl, rfl, rfl, rfl, rfl, hr, fun _ => ⟨takes_of rfl rfl rfl rfl, rfl, rfl⟩, fun σ => passAt (takes_of rfl rfl rfl rfl) σ, fun _ _ => Or.inl rfl, fun _ => passes_of rfl, hq⟩, ?_⟩
      have s0 : S (K, (T, false)) F (L2.start N vs) G H (startD N ds) := S.start sub frm dis ng nf tb h1 (by omega)
      cases ho : f (startD N ds) with
      | none => rw [ho] at h2; cases h2
      | some o =>
        rw [ho] at h2
        refine sp F _ G H _ o s0 ho _ ?_
        cases o with
        | rt d => cases h2; exact fun σ' G' H' δ' v s' g' rv => post G' H' v g' s'.sub s'.frm s'.dis s'.ntg s'.tab rv
        | nx δ' => cases h2; exact fun σ' G' H' s' g' => post G' H' _ g' s'.sub s'.frm s'.dis s'.ntg s'.tab .non
        | ex c => cases h2; exact fun G' H' g' h' f' t' => post G' H' g' h' f' t'
        | bk δ' => cases h2
        | ct δ' => cases h2
    · cases h2
/-- the body's word, for whatever is wanted of an exception, gives the def's -/
theorem fnD {P : Program} {w : World} {K : PySem.W.Frag} {mg : Str → Option Value} {base : Heap} {cl : Nat → Addr} {T : List (Addr × Str)} {k : Nat} {x : Str} {st : Stmt} {a : Addr} {fd : FuncData} {code : Value} {qual : Str} {N ps : List Str} {f : Fo} (Fn : FunQ K x x st a fd code qual) (Sc : FnScope N ps (defScope st)) (hm : mg x = some (.ref a)) (hb : Binds K fd ps []) (hN : ps.length ≤ N.length)
    (body : ∀ E : XK, FS ⟨P, w, K, mg, base, N, defScope st, k, cl, E, fun _ => true, (T, false), code, qual⟩ (defBody st) f) : FnD P w K mg base cl T (k + 1) x (defF N ps.length f) :=
  ⟨a, fd, ps, hm, Fn.kp, hb, fnOk Fn Sc hN body⟩
end FL

set_option Elab.async false
set_option linter.all false
set_option maxRecDepth 100000
set_option maxHeartbeats 2000000
/-! FL6: list comprehensions. -/
namespace FL
open PySem PySem.Spec PyProof.Rows L2
def blkSC (c : SC) (scope : Scope) : SC := { c with sc := relS scope c.sc, E := fun _ _ _ => False, st := fun x => !(x == "") && (scope.names.lookup x == some .local || scope.names.lookup x == some .cell) }
theorem in_blk {c : SC} {X : Cx} {scope : Scope} (h : In c X) (s : Shared) (H : Hp) (C : Addr) (cl : List (Str × Addr)) (fp : List Addr) : In (blkSC c scope) (X.blk s H scope (compEnvC scope cl C X.env) fp) where
  P := h.P
  w := h.w
  K := h.K
  mg := h.mg
  base := h.base
  N := h.N
  sc := by show relS scope X.env.scope = relS scope c.sc; rw [h.sc]
  calm := h.calm
  room := h.room
  tk := fun z => absurd z (by simp [blkSC])
  pa := fun σ => passAt L2.takes0 σ
  fn := fun x hx => by
    have hx : (!(x == "") && (scope.names.lookup x == some .local || scope.names.lookup x == some .cell)) = true := hx
    have hx' : (scope.names.lookup x == some .local || scope.names.lookup x == some .cell) = true := (Bool.and_eq_true _ _ ▸ hx).2
    rw [Bool.or_eq_true] at hx'
    rcases hx' with q | q
    · right
      show (relS scope X.env.scope).names.lookup x = some .local
      exact lookup_relS_keep (by decide) (beq_iff_eq.mp q)
    · left; exact q
  po := fun _ => PassesOwn.never
  code := h.code
theorem wipe_get {σ : L2.St} {j : Nat} : ∀ {vs : List Nat}, (wipe σ vs)[j]? = if j ∈ vs then (σ[j]?).map (fun _ => none) else σ[j]?
  | [] => by simp [wipe]
  | v :: vs => by
    unfold wipe
    by_cases hv : v = j
    · subst hv
      rw [List.getElem?_set]
      simp only [if_true, List.mem_cons, true_or, wipe_length]
      split
      · rename_i hl; rw [List.getElem?_eq_getElem hl]; rfl
      · rename_i hl; rw [List.getElem?_eq_none_iff.mpr (by omega)]; rfl
    · rw [List.getElem?_set_ne hv, wipe_get (vs := vs)]
      have : (j ∈ v :: vs) ↔ j ∈ vs := by simp [Ne.symm hv]
      simp only [this]
theorem wipe_agr {σ σ' : L2.St} {is vs : List Nat} (a : Agr is (wipe σ vs) σ') (h : ∀ j ∈ is, j ∈ vs) : wipe σ' vs = wipe σ vs := by
  apply List.ext_getElem?
  intro j
  rw [wipe_get, wipe_get]
  by_cases hj : j ∈ vs
  · rw [if_pos hj, if_pos hj]
    have hl : σ'.length = σ.length := a.1.trans (wipe_length _ _)
    cases h1 : σ'[j]? with
    | none => rw [List.getElem?_eq_none_iff] at h1; rw [List.getElem?_eq_none_iff.mpr (by omega)]
    | some x =>
      obtain ⟨h2, _⟩ := List.getElem?_eq_some_iff.mp h1
      rw [List.getElem?_eq_getElem (show j < σ.length by omega)]
      rfl
  · rw [if_neg hj, if_neg hj, a.2 j fun z => hj (h j z), wipe_get, if_neg hj]
def wipeD (δ : De) : List Nat → De
  | [] => δ
  | v :: vs => (wipeD δ vs).set v .un
def restD (δ δ' : De) : List Nat → De
  | [] => δ'
  | v :: vs => (restD δ δ' vs).set v ((δ[v]?).getD .un)
theorem wipeD_len (δ : De) : ∀ vs : List Nat, (wipeD δ vs).length = δ.length
  | [] => rfl
  | v :: vs => by unfold wipeD; rw [List.length_set, wipeD_len δ vs]
theorem restD_len (δ δ' : De) : ∀ vs : List Nat, (restD δ δ' vs).length = δ'.length
  | [] => rfl
  | v :: vs => by unfold restD; rw [List.length_set, restD_len δ δ' vs]
theorem restD_get {δ δ' : De} {j : Nat} : ∀ {vs : List Nat}, (restD δ δ' vs)[j]? = if j ∈ vs then (δ'[j]?).map (fun _ => (δ[j]?).getD .un) else δ'[j]?
  | [] => by simp [restD]
  | v :: vs => by
    unfold restD
    by_cases hv : v = j
    · subst hv
      rw [List.getElem?_set]
      simp only [if_true, List.mem_cons, true_or, restD_len]
      split
      · rename_i hl; rw [List.getElem?_eq_getElem hl]; rfl
      · rename_i hl; rw [show δ'[v]? = none from List.getElem?_eq_none_iff.mpr (by omega)]; rfl
    · rw [List.getElem?_set_ne hv, restD_get (vs := vs)]
      have : (j ∈ v :: vs) ↔ j ∈ vs := by simp [Ne.symm hv]
      simp only [this]
def noOwn (δ : De) (vs : List Nat) : Bool := vs.all fun v => (ownAt δ v).isNone
section
variable {K : PySem.W.Frag} {T : Tb} {F G H : Hp} {σ : L2.St} {δ : De}
theorem S.wipes (s : S (K, T) F σ G H δ) : ∀ vs : List Nat, S (K, T) F (L2.wipe σ vs) G H (wipeD δ vs)
  | [] => s
  | v :: vs => (S.wipes s vs).wipe v none
theorem S.relist {D : Addr} {a b : List V} (s : S (K, T) (upd F D (.lst a)) σ G H δ) : S (K, T) (upd F D (.lst b)) σ G (upd H D (.lst b)) δ := by
  have gd : G D = none := s.dis D _ upd_same
  refine ⟨fun x o e => ?_, fun x o e => ?_, fun x o e => ?_, s.len, s.val, fun i xs e => ?_, s.inj, tabs_lst s.tab (s.frm D _ upd_same), fun x hx => ⟨?_, (s.tnf x hx).2⟩, s.ntg, fun b ps e => ?_, fun hl b o e => ?_⟩
  · rw [upd_ne (ne_of_none e gd)]; exact s.sub _ _ e
  · by_cases hx : x = D
    · subst hx; rw [upd_same] at e ⊢; exact e
    · rw [upd_ne hx] at e ⊢; exact s.frm x o (by rw [upd_ne hx]; exact e)
  · by_cases hx : x = D
    · subst hx; exact gd
    · rw [upd_ne hx] at e; exact s.dis x o (by rw [upd_ne hx]; exact e)
  · obtain ⟨p, vs, h1, h2, h3, h4, h5⟩ := s.own i xs e
    have np : p ≠ D := fun z => by subst z; rw [upd_same] at h5; cases h5
    rw [upd_ne np] at h5
    exact ⟨p, vs, h1, by rw [upd_ne np]; exact h2, h3, h4, by rw [upd_ne np]; exact h5⟩
  · have q := (s.tnf x hx).1
    have nx : x.1 ≠ D := fun z => by rw [z, upd_same] at q; cases q
    rw [upd_ne nx] at q ⊢
    exact q
  · by_cases hb : b = D
    · subst hb; rw [upd_same] at e; cases e
    · rw [upd_ne hb] at e; exact s.ntf b ps (by rw [upd_ne hb]; exact e)
  · by_cases hb : b = D
    · subst hb; rw [upd_same] at e; exact ⟨_, (Option.some.inj e).symm⟩
    · rw [upd_ne hb] at e; exact s.lw hl b o (by rw [upd_ne hb]; exact e)
/-- the comprehension's list joins the callers' for a while -/
theorem S.enter (s : S (K, T) F σ G H δ) {D : Addr} {a : List V} (h : H D = none) : S (K, T) (upd F D (.lst a)) σ G (upd H D (.lst a)) δ := by
  have gd : G D = none := s.sub.free h
  have s1 := s.newH (o := .lst a) h
  refine ⟨s1.sub, fun x o e => ?_, fun x o e => ?_, s.len, s.val, fun i xs e => ?_, s.inj, s1.tab, fun x hx => ⟨?_, (s.tnf x hx).2⟩, s.ntg, fun b ps e => ?_, fun hl b o e => ?_⟩
  · by_cases hx : x = D
    · subst hx; rw [upd_same] at e ⊢; exact e
    · rw [upd_ne hx] at e; exact s1.frm x o e
  · by_cases hx : x = D
    · subst hx; exact gd
    · rw [upd_ne hx] at e; exact s.dis x o e
  · obtain ⟨p, vs, h1, h2, h3, h4, h5⟩ := s1.own i xs e
    have np : p ≠ D := fun z => by
      subst z
      obtain ⟨q, ws, e1, e2, _⟩ := s.own i xs e
      rw [h1] at e1; cases e1
      rw [h] at e2; cases e2
    exact ⟨p, vs, h1, h2, h3, h4, by rw [upd_ne np]; exact h5⟩
  · obtain ⟨ps, hp, _⟩ := s.tab x hx
    rw [upd_ne (ne_of_none hp h)]
    exact (s.tnf x hx).1
  · by_cases hb : b = D
    · subst hb; rw [upd_same] at e; cases e
    · rw [upd_ne hb] at e; exact s.ntf b ps e
  · by_cases hb : b = D
    · subst hb; rw [upd_same] at e; exact ⟨_, (Option.some.inj e).symm⟩
    · rw [upd_ne hb] at e; exact s.lw hl b o e
theorem S.leave {D : Addr} {a : List V} (s : S (K, T) (upd F D (.lst a)) σ G H δ) (hf : F D = none) : S (K, T) F σ (upd G D (.lst a)) H δ := by
  have gd : G D = none := s.dis D _ upd_same
  have sg : Same G (upd G D (.lst a)) := same_upd gd
  refine ⟨fun x o e => ?_, fun x o e => ?_, fun x o e => ?_, s.len, fun i d e => ?_, fun i xs e => ?_, s.inj, s.tab, fun x hx => ?_, fun b ps e => ?_, fun b ps e => ?_, fun hl b o e => ?_⟩
  · by_cases hx : x = D
    · subst hx; rw [upd_same] at e; rw [← e]; exact s.frm x _ upd_same
    · rw [upd_ne hx] at e; exact s.sub x o e
  · exact s.frm x o (by rw [upd_ne (ne_of_none e hf)]; exact e)
  · rw [upd_ne (ne_of_none e hf)]; exact s.dis x o (by rw [upd_ne (ne_of_none e hf)]; exact e)
  · obtain ⟨v, h1, h2⟩ := s.val i d e
    exact ⟨v, h1, h2.mono sg⟩
  · obtain ⟨p, vs, h1, h2, h3, h4, h5⟩ := s.own i xs e
    have np : p ≠ D := fun z => by subst z; rw [upd_same] at h5; cases h5
    rw [upd_ne np] at h5
    exact ⟨p, vs, h1, h2, h3.mono sg, by rw [upd_ne np]; exact h4, h5⟩
  · have q := s.tnf x hx
    have nx : x.1 ≠ D := fun z => by rw [z, upd_same] at q; exact nomatch q.1
    rw [upd_ne nx] at q ⊢
    exact q
  · by_cases hb : b = D
    · subst hb; rw [upd_same] at e; cases e
    · rw [upd_ne hb] at e; exact s.ntg b ps e
  · by_cases hb : b = D
    · subst hb; rw [hf] at e; cases e
    · exact s.ntf b ps (by rw [upd_ne hb]; exact e)
  · by_cases hb : b = D
    · subst hb; rw [hf] at e; cases e
    · exact s.lw hl b o (by rw [upd_ne hb]; exact e)
theorem S.unblock {G0 H0 : Hp} {σ0 : L2.St} {δ0 : De} {vs : List Nat} (s : S (K, T) F σ G H δ) (s0 : S (K, T) F σ0 G0 H0 δ0) (g : Same G0 G) (ag : ∀ j, j ∉ vs → σ[j]? = σ0[j]?) (hl : σ.length = σ0.length) (no : noOwn δ0 vs = true) : S (K, T) F σ0 G H (restD δ0 δ vs) := by
  have own0 : ∀ v ∈ vs, ∀ xs, δ0[v]? ≠ some (.own xs) := fun v hv xs e => by
    have := List.all_eq_true.mp no v hv
    unfold ownAt at this
    rw [e] at this
    cases this
  have back : ∀ (j : Nat) xs, (restD δ0 δ vs)[j]? = some (.own xs) → j ∉ vs ∧ δ[j]? = some (.own xs) := fun j xs e => by
    rw [restD_get] at e
    split at e
    · rename_i hj
      cases h1 : δ[j]? with
      | none => rw [h1] at e; cases e
      | some z =>
        rw [h1] at e
        simp only [Option.map_some, Option.some.injEq] at e
        cases h2 : δ0[j]? with
        | none => rw [h2] at e; cases e
        | some y =>
          rw [h2] at e
          simp only [Option.getD_some] at e
          subst e
          exact absurd h2 (own0 j hj xs)
    · rename_i hj
      exact ⟨hj, e⟩
  refine ⟨s.sub, s.frm, s.dis, by rw [restD_len, s.len, hl], fun i d e => ?_, fun i xs e => ?_, fun i j xs ys hn e1 e2 => ?_, s.tab, s.tnf, s.ntg, s.ntf, s.lw⟩
  · rw [restD_get] at e
    split at e
    · cases h1 : δ[i]? with
      | none => rw [h1] at e; cases e
      | some z =>
        rw [h1] at e
        simp only [Option.map_some, Option.some.injEq] at e
        cases h2 : δ0[i]? with
        | none => rw [h2] at e; cases e
        | some y =>
          rw [h2] at e
          simp only [Option.getD_some] at e
          subst e
          obtain ⟨v, q1, q2⟩ := s0.val i d h2
          exact ⟨v, q1, q2.mono g⟩
    · rename_i hj
      obtain ⟨v, q1, q2⟩ := s.val i d e
      exact ⟨v, by rw [← ag i hj]; exact q1, q2⟩
  · obtain ⟨hj, e'⟩ := back i xs e
    obtain ⟨p, ws, q1, q2⟩ := s.own i xs e'
    exact ⟨p, ws, by rw [← ag i hj]; exact q1, q2⟩
  · obtain ⟨hi, e1'⟩ := back i xs e1
    obtain ⟨hj, e2'⟩ := back j ys e2
    rw [← ag i hi, ← ag j hj]
    exact s.inj i j xs ys hn e1' e2'
end
structure FTs (c : SC) (ifs : List Expr) (f : M Bool) : Prop where
  ex : ∃ t, (∀ X, In c X → PTs X ifs t) ∧ Sp2 c.κ c.cl c.E RepB t f
section
variable {c : SC}
theorem fts_nil : FTs c [] (pureM true) := ⟨tYes, fun _ _ => pts_nil, Sp2.pure (v := true) fun _ => rfl⟩
theorem fts_one {e : Expr} {f : M Bool} (h : FT c e f) : FTs c [e] f := by
  obtain ⟨t, p, s⟩ := h.ex
  exact ⟨t, fun X h => pts_one (p X h), s⟩
def lcD (vs : List Nat) (bd : D → De → Option De) (tt : M Bool) (fe : M D) : List D → M (List D)
  | [], δ => some (.ok [] δ)
  | x :: r, δ => if noOwn δ vs then match bd x (wipeD δ vs) with
    | none => none
    | some δ1 => match tt δ1 with
      | some (.ok true δ2) => match fe δ2 with
        | some (.ok y δ3) => match lcD vs bd tt fe r (restD δ δ3 vs) with
          | some (.ok ys δ4) => some (.ok (y :: ys) δ4)
          | _ => none
        | _ => none
      | some (.ok false δ2) => lcD vs bd tt fe r (restD δ δ2 vs)
      | _ => none
    else none
def lcM (vs : List Nat) (bd : D → De → Option De) (tt : M Bool) (fe : M D) (items : M (List D)) : M D :=
  bindM items fun ds => if ds.length < 1000000 then bindM (lcD vs bd tt fe ds) fun ys => pureM (.lst ys) else fun _ => none
theorem sp_lc {K : PySem.W.Frag} {T : Tb} {cl : Nat → Addr} {E : XK} {wi : TI} {g : TG} {t : TT} {te : TE} {items : M (List D)} {is vs : List Nat} {bd : D → De → Option De} {tt : M Bool} {fe : M D}
    (si : Sp2 (K, T) cl E (Walks K) wi items) (sg : ∀ F σ G H δ v d δ', S (K, T) F σ G H δ → Rep K G v d → bd d δ = some δ' → ∀ Q, (∀ σ', S (K, T) F σ' G H δ' → Agr is σ σ' → Q σ' H) → g v σ H Q)
    (st : Sp2 (K, T) cl (fun _ _ _ => False) RepB t tt) (se : Sp2 (K, T) cl (fun _ _ _ => False) (Rep K) te fe) (his : ∀ i ∈ is, i ∈ vs) :
    Sp2 (K, T) cl E (Rep K) (tLc wi g t te vs) (lcM vs bd tt fe items) := by
  intro F σ G H δ r s e Q p
  refine si.step s e p fun G1 H1 δ1 J ds s1 g1 W e1 p1 => ?_
  split at e1
  · rename_i hlen
    intro D hD
    have fD : F D = none := s1.frm.free hD
    -- the end's word
    cases hlc : lcD vs bd tt fe ds δ1 with
    | none => unfold bindM at e1; rw [hlc] at e1; cases e1
    | some rr =>
      cases rr with
      | ex k =>
        exfalso
        -- a comprehension hands no exception on
        have : ∀ (ds : List FL.D) δ k, lcD vs bd tt fe ds δ ≠ some (.ex k) := by
          intro ds
          induction ds with
          | nil => intro δ k h; cases h
          | cons x r ih =>
            intro δ k h
            rw [lcD] at h
            repeat' split at h
            all_goals first | cases h | exact ih _ _ h
        exact this _ _ _ hlc
      | ok ysA δf =>
        rw [bindM_ok hlc] at e1
        cases e1
        refine ⟨fun i m H => m = ds.length - i ∧ i ≤ ds.length ∧ ∃ G2 δ2 accV accD ys, Same G1 G2 ∧ S (K, T) (upd F D (.lst accV)) σ G2 H δ2 ∧ RepL K G2 accV accD ∧ accD.length ≤ i ∧ lcD vs bd tt fe (ds.drop i) δ2 = some (.ok ys δf) ∧ ysA = accD ++ ys,
          ⟨ds.length, by simp, Nat.zero_le _, G1, δ1, [], [], ysA, Same.refl _, s1.enter hD, .nil, Nat.zero_le _, hlc, rfl⟩, ?_⟩
        rintro i m H2 ⟨rfl, hi, G2, δ2, accV, accD, ys, g2, s2, ra, hla, e2, ey⟩
        by_cases hl : i < ds.length
        · have hd : ds[i]? = some ds[i] := List.getElem?_eq_getElem hl
          rw [List.drop_eq_getElem_cons hl, lcD] at e2
          split at e2
          · rename_i hno
            refine .inr ⟨W.go _ _ σ G2 H2 δ2 i g2 s2 hl, fun H' => ∃ G5 δ5 accV' accD' ys', Same G1 G5 ∧ S (K, T) (upd F D (.lst accV')) σ G5 H' δ5 ∧ RepL K G5 accV' accD' ∧ accD'.length ≤ i + 1 ∧ lcD vs bd tt fe (ds.drop (i + 1)) δ5 = some (.ok ys' δf) ∧ ysA = accD' ++ ys',
              fun H' z => ⟨ds.length - (i + 1), by omega, rfl, hl, z⟩, fun x H3 hy => ?_⟩
            obtain ⟨G3, s3, g3, rx⟩ := W.yld _ _ (wipe σ vs) G2 H2 (wipeD δ2 vs) i x H3 _ g2 (s2.wipes vs) hy hd
            cases hbd : bd ds[i] (wipeD δ2 vs) with
            | none => rw [hbd] at e2; cases e2
            | some δ3 =>
              rw [hbd] at e2
              dsimp only at e2
              refine sg _ (wipe σ vs) G3 H3 _ x _ δ3 s3 rx hbd _ fun σ3 s4 ag => ⟨wipe_agr ag his, ?_⟩
              have g23 : Same G2 G3 := g3
              have agr3 : ∀ j, j ∉ vs → σ3[j]? = σ[j]? := fun j hj => by
                rw [ag.2 j fun z => hj (his j z), wipe_get, if_neg hj]
              have len3 : σ3.length = σ.length := ag.1.trans (wipe_length _ _)
              cases ht : tt δ3 with
              | none => rw [ht] at e2; cases e2
              | some rt =>
                rw [ht] at e2
                cases rt with
                | ex k => cases e2
                | ok b δ4 =>
                  refine st _ σ3 G3 H3 δ3 _ s4 ht _ fun G4 H4 b' s5 g4 rb => ?_
                  have eb : b' = b := rb
                  subst eb
                  cases b' with
                  | false =>
                    rw [if_neg Bool.false_ne_true]
                    dsimp only at e2
                    exact ⟨G4, _, accV, accD, ys, g2.trans (g23.trans g4), s5.unblock s2 (g23.trans g4) agr3 len3 hno, ra.mono (g23.trans g4), by omega, e2, ey⟩
                  | true =>
                    rw [if_pos rfl]
                    dsimp only at e2
                    cases hf : fe δ4 with
                    | none => rw [hf] at e2; cases e2
                    | some rf =>
                      rw [hf] at e2
                      cases rf with
                      | ex k => cases e2
                      | ok y δ5 =>
                        dsimp only at e2
                        refine se _ σ3 G4 H4 δ4 _ s5 hf _ fun G5 H5 v s6 g5 ry => ?_
                        have g25 : Same G2 G5 := g23.trans (g4.trans g5)
                        cases hr : lcD vs bd tt fe (ds.drop (i + 1)) (restD δ2 δ5 vs) with
                        | none => rw [hr] at e2; cases e2
                        | some rr2 =>
                          rw [hr] at e2
                          cases rr2 with
                          | ex k => cases e2
                          | ok ys2 δ6 =>
                            cases e2
                            refine ⟨accV, s6.frm D _ upd_same, by rw [ra.length]; rw [sizeLine_eq]; omega, G5, restD δ2 δ5 vs, accV ++ [v], accD ++ [y], ys2, g2.trans g25, (s6.unblock s2 g25 agr3 len3 hno).relist, (ra.mono g25).append (.cons ry .nil), by rw [List.length_append]; simp; omega, hr, by rw [ey, List.append_assoc]; rfl⟩
          · cases e2
        · have ei : i = ds.length := by omega
          subst ei
          rw [List.drop_length] at e2
          cases e2
          have gd : G2 D = none := s2.dis D _ upd_same
          refine .inl ⟨W.stop _ _ σ G2 H2 _ _ g2 s2 (Nat.le_refl _), ?_⟩
          rw [List.append_nil] at ey
          subst ey
          exact p1 (upd G2 D (.lst accV)) H2 _ (s2.leave fD) (g2.trans (same_upd gd)) (.lst upd_same (ra.mono (same_upd gd)))
  · cases e1
theorem fe_lc {elt tg iter : Expr} {ifs : List Expr} {scope : Scope} (own : List (Str × Nat)) {pos : Pos} {items : M (List D)} {is : List Nat} {bd : D → De → Option De} {tt : M Bool} {fe : M D} (nd : c.N.Nodup) (hi : FI c tg iter items) (ok : blkC c.N c.sc scope own = true)
    (hg : FG (blkSC c scope) tg is bd) (ht : FTs (blkSC c scope) ifs tt) (he : FE (blkSC c scope) elt fe) (his : ∀ i ∈ is, i ∈ own.map (·.2)) (hs : ∀ (env : Env) x, foldedSetIterable iter env x = pure x := by intro _ _; rfl) :
    FE c (.ListComp elt [⟨tg, iter, ifs, 0⟩] scope pos) (lcM (own.map (·.2)) bd tt fe items) := by
  obtain ⟨wi, pi, si⟩ := hi.ex
  obtain ⟨g, pg, sg⟩ := hg.ex
  obtain ⟨t, pt, st⟩ := ht.ex
  obtain ⟨te, pe, se⟩ := he.ex
  exact ⟨_, fun X h => pe_lc h.calm (by rw [h.N]; exact nd) (pi X h) (by rw [h.N, h.sc]; exact blkOk_by ok) (fun s H C cl fp => pg _ (in_blk h s H C cl fp)) (fun s H C cl fp => pt _ (in_blk h s H C cl fp)) (fun s H C cl fp => pe _ (in_blk h s H C cl fp)) (hs _), sp_lc si sg st se his⟩
/-- y = [..] on one line -/
theorem fs_setLc (i : Nat) {y : Str} {py : Pos} {elt tg iter : Expr} {ifs : List Expr} {scope : Scope} (own : List (Str × Nat)) {pos spos : Pos} {items : M (List D)} {is : List Nat} {bd : D → De → Option De} {tt : M Bool} {fe : M D} (nd : c.N.Nodup) (hi : FI c tg iter items) (ok : blkC c.N c.sc scope own = true)
    (hg : FG (blkSC c scope) tg is bd) (ht : FTs (blkSC c scope) ifs tt) (he : FE (blkSC c scope) elt fe) (his : ∀ i ∈ is, i ∈ own.map (·.2))
    (hy : c.N[i]? = some y := by rfl) (hyl : c.sc.names.lookup y = some .local := by rfl)
    (hsw : ∀ env : Env, env.scope = c.sc → swapsWith (.ListComp elt [⟨tg, iter, ifs, 0⟩] scope pos) (some (.Name y py)) spos.line env = pure true)
    (hs : ∀ (env : Env) x, foldedSetIterable iter env x = pure x := by intro _ _; rfl) :
    FS1 c (.Assign [.Name y py] (.ListComp elt [⟨tg, iter, ifs, 0⟩] scope pos) spos) (thenS (lcM (own.map (·.2)) bd tt fe items) fun d δ => some (.nx (δ.set i (.val d)))) := by
  obtain ⟨wi, pi, si⟩ := hi.ex
  obtain ⟨g, pg, sg⟩ := hg.ex
  obtain ⟨t, pt, st⟩ := ht.ex
  obtain ⟨te, pe, se⟩ := he.ex
  refine ⟨tAsg (tLc wi g t te (own.map (·.2))) (gName i), fun X h => ?_, fun F σ G H δ o s e Dn p => ?_⟩
  · exact ps_setLc h.calm (by rw [h.N]; exact nd) (by rw [h.N]; exact hy) (by rw [h.sc]; exact hyl) (hsw _ h.sc) (pi X h) (by rw [h.N, h.sc]; exact blkOk_by ok) (fun s H C cl fp => pg _ (in_blk h s H C cl fp)) (fun s H C cl fp => pt _ (in_blk h s H C cl fp)) (fun s H C cl fp => pe _ (in_blk h s H C cl fp)) (hs _)
  · refine (sp_lc (cl := c.cl) (E := c.E) si sg st se his).stepS s e p fun G1 H1 δ1 v d s1 g1 rx e1 p1 => ?_
    cases e1
    exact p1 _ G1 H1 (s1.store i rx) (Same.refl _)
end
end FL

set_option Elab.async false
set_option linter.all false
set_option maxRecDepth 100000
set_option maxHeartbeats 2000000
/-! FL7: max with a default; the law's dice. -/
namespace FL
open PySem PySem.Spec PyProof.Rows L2
theorem foldl_max : ∀ (n : Int) (ns : List Int), ns.foldl max n = maxL (n :: ns)
  | n, [] => rfl
  | n, m :: r => by
    rw [List.foldl_cons, foldl_max (max n m) r]
    have key : ∀ (l : List Int) (a b : Int), maxL (max a b :: l) = maxL (a :: b :: l) := by
      intro l a b
      apply Int.le_antisymm
      · have := maxL_mem (l := max a b :: l) (by simp)
        rcases List.mem_cons.mp this with h | h
        · rw [h]
          rcases Int.le_total a b with q | q
          · rw [Int.max_eq_right q]; exact maxL_le (by simp)
          · rw [Int.max_eq_left q]; exact maxL_le (by simp)
        · exact maxL_le (by simp [h])
      · have := maxL_mem (l := a :: b :: l) (by simp)
        rcases List.mem_cons.mp this with h | h
        · rw [h]; exact Int.le_trans (Int.le_max_left a b) (maxL_le (by simp))
        · rcases List.mem_cons.mp h with h | h
          · rw [h]; exact Int.le_trans (Int.le_max_right a b) (maxL_le (by simp))
          · exact maxL_le (by simp [h])
    exact key r n m
def rMaxDf (K : PySem.W.Frag) : List V → List V → Hp → VK → Prop := fun xs zs H Q => ∃ (a : Addr) (ns : List Int) (z : V), xs = [.ref a] ∧ SqL K H a (ns.map V.int) ∧ zs = [z] ∧ (ns = [] → Q z H) ∧ (ns ≠ [] → Q (.int (maxL ns)) H)
theorem intsAre_reads {h : Heap} : ∀ {us : List Value} {ns : List Int}, IntsAre us ns → ReadsAll h us (ns.map .int) []
  | _, _, .nil => .nil
  | _, _, .cons n t r => by
    have := ReadsAll.cons (Reads.int (h := h) n t) (intsAre_reads r)
    simpa using this
theorem call_maxDf {X : Cx} (hc : X.calm = true) (hu : X.A.units + 64 < cLine) : CallRK X (.builtin "max") [("default" : Str)] (rMaxDf X.K) := by
  intro pins s σ H xs zs us ws Q I rx rz q
  obtain ⟨a, ns, z, rfl, hs, rfl, q0, q1⟩ := q
  obtain ⟨its, rv, ⟨o, n, ho, hcl, hdi, hda⟩, hz⟩ := I.list hs
  obtain ⟨u, rfl, ru⟩ := Vals.one rx
  obtain ⟨wv, rfl, rw⟩ := Vals.one rz
  cases ru
  have hl : s.heap.IsList a its.toArray := ⟨o, ho, hcl, n, hda⟩
  have hi := Vals.ints rv
  show wpAny _ _ (call (.builtin "max") [.ref a] [(Str.ofString "default", wv)]) _ _ _
  refine PySem.W.max_list_default (xs := ns.map .int) (as := []) (I.ok.hd hc) hl (intsAre_reads hi) ⟨?_, ?_⟩ ?_ ?_ ?_
  · intro x hx y hy
    obtain ⟨i, _, rfl⟩ := List.mem_map.mp hx
    obtain ⟨j, _, rfl⟩ := List.mem_map.mp hy
    rfl
  · intro x hx
    obtain ⟨i, _, rfl⟩ := List.mem_map.mp hx
    intro z; cases z
  · rw [PySem.W.depth_ints]; omega
  · intro e h' tk hk
    have : ns = [] := by simpa using e
    exact ⟨z, H, I.kept hk, rw, q0 this⟩
  · intro y ys i v h' tk bs e hv r hk
    cases ns with
    | nil => cases e
    | cons m ms =>
      rw [List.map_cons] at e
      cases e
      rw [PySem.W.maxD_ints, foldl_max] at r
      cases r
      exact ⟨.int (maxL (m :: ms)), H, I.kept hk, ⟨_, rfl⟩, q1 (by simp)⟩
section
variable {c : SC}
def maxDfM (f g : M D) : M D := bindM f fun d => bindM g fun e => match d with
  | .lst ds => match intsOf ds with
    | some [] => pureM e
    | some (n :: r) => pureM (.int (maxL (n :: r)))
    | none => fun _ => none
  | _ => fun _ => none
theorem fe_maxDf {p pos kp : Pos} {e d : Expr} {f g : M D} (hm : c.mg "max" = none) (ha : FE c e f) (hd : FE c d g) (hg : Gb c "max" := by rfl)
    (hs : ∀ env : Env, starEach [e] env = (false, eval e env) :: starEach [] env := by intro _; rfl)
    (he : ∀ env : Env, backTo pos (starEach [e] env) = (false, eval e env) :: backTo pos (starEach [] env) := by intro _; rfl) (hpl : ∀ env : Env, (backTo pos (starEach [e] env)).any (·.1) = false := by intro _; rfl)
    (hall : ∀ env : Env, (backToKw pos (keywordEach [⟨some "default", d, kp⟩] env)).all (·.1.isSome) = true := by intro _; rfl) (hnone : ∀ env : Env, (backToKw pos (keywordEach [⟨some "default", d, kp⟩] env)).any (·.1.isNone) = false := by intro _; rfl)
    (hks : ∀ env : Env, (backToKw pos (keywordEach [⟨some "default", d, kp⟩] env)).filterMap (·.1) = [("default" : Str)] := by intro _; rfl) :
    FE c (.Call (.Name "max" p) [e] [⟨some "default", d, kp⟩] pos) (maxDfM f g) := by
  obtain ⟨ta, pa, sa⟩ := ha.ex
  obtain ⟨td, pd, sd⟩ := hd.ex
  refine ⟨tCKw (rMaxDf c.K) (tCons ta tNil) (tCons td tNil), fun X h => ?_, fun F σ G H δ r s e Q p => ?_⟩
  · have q := call_maxDf (X := X) h.calm h.units
    rw [h.K] at q
    exact pe_callBK q (show X.env.scope.names.lookup _ = _ by rw [h.sc]; exact hg) (by rw [h.mg]; exact hm) (by first | exact PyProof.Rows.boot_max | decide +kernel) (pa_cons (pa X h) pa_nil (hs _)) (pk_cons (pd X h) pk_nil) (by decide) (by decide) (he _) (hpl _) (hall _) (hnone _) (hks _)
  · refine sa.step s e p fun G1 H1 δ1 x d s1 g1 rx e1 p1 => ?_
    refine sd.step s1 e1 p1 fun G2 H2 δ2 y e' s2 g2 ry e2 p2 => ?_
    cases d <;> try (cases e2)
    rename_i ds
    dsimp only at e2
    have rx2 := rx.mono g2
    cases rx2 with
    | lst h1 h2 =>
      cases hi : intsOf ds with
      | none => rw [hi] at e2; cases e2
      | some ns =>
        rw [hi] at e2
        rw [intsOf_some hi] at h2
        have ev := h2.ints'
        subst ev
        refine ⟨_, ns, y, rfl, .of (s2.sub _ _ h1), rfl, fun hn => ?_, fun hn => ?_⟩
        · subst hn
          cases e2
          exact p2 G2 H2 _ s2 (Same.refl _) ry
        · cases ns with
          | nil => exact absurd rfl hn
          | cons n r => cases e2; exact p2 G2 H2 _ s2 (Same.refl _) (.int _)
end

/-! ### the law's dice -/
def rollF (x y z m : Int) : Int × Int × Int × Int :=
  if z = 2 ∨ (z = 1 ∧ 0 < x) then (x % m, x / m, y, z)
  else ((((x * 48271 + y * 69621 + 11) % 2147483647) / 7 + (x * 48271 + y * 69621 + 11) % 2147483647) % m, (x * 48271 + y * 69621 + 11) % 2147483647, y + 1, 0)
theorem rollF_lo (x y z m : Int) (h : 0 < m) : 0 ≤ (rollF x y z m).1 := by
  unfold rollF
  split
  · exact Int.emod_nonneg _ (by omega)
  · exact Int.emod_nonneg _ (by omega)
theorem rollF_hi (x y z m : Int) (h : 0 < m) : (rollF x y z m).1 < m := by
  unfold rollF
  split
  · exact Int.emod_lt_of_pos _ h
  · exact Int.emod_lt_of_pos _ h
def ints3 (x y z : Int) : HO := .lst [.int x, .int y, .int z]
def spRoll : Sp := fun vs H Q _ => ∃ (p : Addr) (x y z m : Int), vs = [.ref p, .int m] ∧ H p = some (ints3 x y z) ∧ 0 < m ∧ m < 1073741824 ∧
  Q (.int (rollF x y z m).1) (upd H p (ints3 (rollF x y z m).2.1 (rollF x y z m).2.2.1 (rollF x y z m).2.2.2))
end FL

set_option Elab.async false
set_option linter.all false
set_option maxRecDepth 100000
set_option maxHeartbeats 2000000
/-! FL8: the law's own words: a roll of the dice; a lambda told. -/
namespace FL
open PySem PySem.Spec PyProof.Rows L2
/-! ### _law_roll(dice, e) -/
structure RollD (P : Program) (w : World) (K : PySem.W.Frag) (mg : Str → Option Value) (base : Heap) : Prop where
  ex : ∃ (a : Addr) (fd : FuncData), mg "_law_roll" = some (.ref a) ∧ PySem.W.keepIn K (.ref a) = true ∧ Binds K fd ["dice", "many"] [] ∧ FnOk P w K mg base (L2.CX P w) 1 a fd ["dice", "many"] spRoll
def rollK (i : Nat) (m : D) : M D := fun δ => match m, ownAt δ i with
  | .int m, some [.int x, .int y, .int z] => if 0 < m ∧ m < 1073741824 then some (.ok (.int (rollF x y z m).1) (δ.set i (.own [.int (rollF x y z m).2.1, .int (rollF x y z m).2.2.1, .int (rollF x y z m).2.2.2]))) else none
  | _, _ => none
def rollM (i : Nat) (f : M D) : M D := fun δ => match ownAt δ i with
  | none => none
  | some _ => bindM f (rollK i) δ
section
variable {c : SC}
theorem fe_roll (i : Nat) {x : Str} {e : Expr} {f : M D} {p p1 pos : Pos} (Rd : RollD c.P c.w c.K c.mg c.base) (he : FE c e f) (hk : Nat.ble 1 c.k = true := by rfl) (hN : c.N[i]? = some x := by rfl) (hv : Vis c.sc x := by first | exact Or.inl rfl | exact Or.inr (Or.inl rfl) | exact Or.inr (Or.inr rfl))
    (hg : Gb c "_law_roll" := by rfl) (hd : (x == ("__debug__" : Str)) = false := by decide) (hcd : (x == ("__classdict__" : Str)) = false := by decide)
    (h1 : ∀ env : Env, starEach [.Name x p1, e] env = (false, eval (.Name x p1) env) :: starEach [e] env := by intro _; rfl) (h2 : ∀ env : Env, starEach [e] env = (false, eval e env) :: starEach [] env := by intro _; rfl)
    (hpl : ∀ env : Env, (backTo pos (starEach [e] env)).any (·.1) = false := by intro _; rfl) :
    FE c (.Call (.Name "_law_roll" p) [.Name x p1, e] [] pos) (rollM i f) := by
  obtain ⟨t, pa, sa⟩ := he.ex
  obtain ⟨a, fd, q1, q2, q3, q4⟩ := Rd.ex
  refine ⟨tCallS spRoll (WE fun cls d _ H => c.E cls d H) (tCons (tVar i) (tCons t tNil)), fun X h => ?_, fun F σ G H δ r s e Q p => ?_⟩
  · have q4' : FnOk X.prog X.w X.K X.mg X.base (L2.CX X.prog X.w) 1 a fd ["dice", "many"] spRoll := by rw [h.P, h.w, h.K, h.mg, h.base]; exact q4
    exact pe_callS q4' (h.room.mono (Nat.le_of_ble_eq_true hk)) (show X.env.scope.names.lookup _ = _ by rw [h.sc]; exact hg) (by rw [h.mg]; exact q1) (by rw [h.K]; exact q2) (by rw [h.K]; exact q3) h.pa (pa_cons (pe_var (i := i) (x := x) (pos := p1) (by rw [h.N]; exact hN) (by rw [h.sc]; exact hv) hd hcd) (pa_cons (pa X h) pa_nil (h2 _)) (h1 _)) (by decide) (h1 _) (hpl _)
  · unfold rollM at e
    cases h0 : ownAt δ i with
    | none => rw [h0] at e; cases e
    | some xs0 =>
      rw [h0] at e
      dsimp only at e
      obtain ⟨q, vs, e1, e2, e3, e4, e5⟩ := s.own i xs0 (ownAt_some h0)
      refine ⟨_, e1, ?_⟩
      refine sa.step s e p fun G1 H1 δ1 v d s1 g1 rx e1' p1 => ?_
      unfold rollK at e1'
      split at e1'
      · rename_i m x y z ho
        split at e1'
        · rename_i hm
          cases e1'
          cases rx
          obtain ⟨q', ws, f1, f2, f3, f4, f5⟩ := s1.own i _ (ownAt_some ho)
          rw [e1] at f1
          cases f1
          have ew : ws = [V.int x, V.int y, V.int z] := RepL.ints' (ns := [x, y, z]) f3
          subst ew
          refine ⟨q, x, y, z, m, rfl, f2, hm.1, hm.2, ?_⟩
          exact p1 G1 _ _ (s1.setOwn (ownAt_some ho) e1 (RepL.ints [(rollF x y z m).2.1, (rollF x y z m).2.2.1, (rollF x y z m).2.2.2])) (Same.refl _) (.int _)
        · cases e1'
      · cases e1'

/-! ### _law_told(lambda: e) -/
def hideOwn (δ : De) : De := δ.map fun
  | .own _ => .un
  | x => x
theorem S.hide {K : PySem.W.Frag} {T : Tb} {F G H : Hp} {σ : L2.St} {δ : De} (s : S (K, T) F σ G H δ) : S (K, (T.1, false)) (besides G H) σ G H (hideOwn δ) := by
  have no : ∀ (i : Nat) xs, (hideOwn δ)[i]? ≠ some (.own xs) := fun i xs e => by
    unfold hideOwn at e
    rw [List.getElem?_map] at e
    cases h : δ[i]? with
    | none => rw [h] at e; cases e
    | some y => rw [h] at e; cases y <;> cases e
  refine ⟨s.sub, fun b o e => (besides_at e).2.1, fun b o e => (besides_at e).1, by unfold hideOwn; rw [List.length_map]; exact s.len, fun i d e => ?_, fun i xs e => absurd e (no i xs), fun i j xs ys _ e => absurd e (no i xs), s.tab, fun x hx => ⟨(besides_tab s.tab).2 x hx, (s.tnf x hx).2⟩, s.ntg, fun b ps e => (besides_at e).2.2 ps rfl, fun z => nomatch z⟩
  unfold hideOwn at e
  rw [List.getElem?_map] at e
  cases h : δ[i]? with
  | none => rw [h] at e; cases e
  | some y =>
    rw [h] at e
    cases y with
    | un => cases e
    | own xs => cases e
    | val d' => cases e; exact s.val i d h
theorem S.extN {K : PySem.W.Frag} {T : Tb} {F G H H1 : Hp} {σ : L2.St} {δ : De} (s : S (K, T) F σ G H δ) (e : LamX.ExtN H H1) (t : LamX.Tabs T.1 H1) : S (K, T) F σ G H1 δ := by
  refine ⟨fun b o q => e b o (s.sub _ _ q) fun ps z => s.ntg b ps (by rw [q, z]), fun b o q => e b o (s.frm _ _ q) fun ps z => s.ntf b ps (by rw [q, z]), s.dis, s.len, s.val, fun i xs q => ?_, s.inj, t, s.tnf, s.ntg, s.ntf, s.lw⟩
  obtain ⟨p, vs, h1, h2, h3, h4, h5⟩ := s.own i xs q
  exact ⟨p, vs, h1, e _ _ h2 fun ps z => (by cases z), h3, h4, h5⟩
/-- what the clauses make of an exception -/
def Ech (K : PySem.W.Frag) (Q : VK) : List (Addr × Str) → XK
  | [] => fun _ _ _ => False
  | (C, n) :: r => fun cls d H' => ∃ b, PySem.W.exmOne K cls (.ref C) = some b ∧ (b = true → Q (.str n) H') ∧ (b = false → Ech K Q r cls d H')
def TTm (K : PySem.W.Frag) (l : List (Addr × Str)) : (XK → Hp → VK → Prop) → Hp → VK → Prop := fun tl H Q => tl (Ech K Q l) H Q
inductive HdT (mg : Str → Option Value) (sg : Scope) : List ExceptHandler → List (Addr × Str) → Prop
  | nil : HdT mg sg [] []
  | cons {e ret : Str} {C : Addr} {j : Nat} {p4 p5 p6 p7 : Pos} {hds : List ExceptHandler} {l : List (Addr × Str)} (h1 : sg.names.lookup e = some .globalImplicit) (h2 : mg e = some (.ref C)) (h3 : (e == ("__debug__" : Str)) = false) (r : HdT mg sg hds l) :
      HdT mg sg (.ExceptHandler (some (.Name e p4)) none [.Return (some (.Constant (.str ret) j p5)) p6] p7 :: hds) ((C, ret) :: l)
def tsOf (l : List (Addr × Str)) : List (Value × (Addr → Value → Option Addr → TS)) := l.map fun p => (.ref p.1, fun _ _ _ => tRet (tC (.str p.2)))
theorem hds_ok {X : Cx} : ∀ {hds : List ExceptHandler} {l : List (Addr × Str)}, HdT X.mg X.env.scope hds l → HdsOk X hds (tsOf l)
  | _, _, .nil => .nil
  | _, _, .cons h1 h2 h3 r => .cons ⟨h1, h3, .inl h2⟩ (fun a oe cls d pn _ _ => pss_one (ps_ret pe_str)) (hds_ok r)
theorem ech_many {K : PySem.W.Frag} {Wout : WX} {Dn : Ends} {cls : Value} {d : Option Addr} {σ : L2.St} {H : Hp} : ∀ {l : List (Addr × Str)}, Ech K Dn.rt l cls d H → wMany K Wout Dn (tsOf l) cls d σ H
  | [], h => h.elim
  | (C, n) :: r, ⟨b, e1, e2, e3⟩ => ⟨b, e1, fun hb a _ => e2 hb, fun hb => ech_many (e3 hb)⟩
theorem gives_many {X : Cx} {Ng : List Str} {x a q : Str} {sg : Scope} {g : Addr} {cdg : Value} {p1 p2 p3 p8 : Pos} {h₀ : ExceptHandler} {hds : List ExceptHandler} {l : List (Addr × Str)} (hh : HdT X.mg sg (h₀ :: hds) l) (h0 : ∀ f : Addr, (L2.start Ng [V.ref f])[0]? = some (some (V.ref f))) :
    LamX.GivesTo X Ng x sg g cdg [.Try [.Return (some (.Call (.Name a p1) [] [] p2)) p3] (h₀ :: hds) [] [] p8] a q (TTm X.K l) := by
  intro f c' s H Q tl act hc h
  refine ⟨_, pss_one (ps_try_many (X := (cxOf C8.CX0 X.prog X.w X.K X.mg X.base Ng x sg g cdg X.A X.stack s H C8.E0).nox) (l := tsOf l) (Wout := fun _ _ _ _ => False)
      (tb := fun W D σ H => ∃ Ec : XK, (∀ cls d σ' H', Ec cls d H' → W cls d σ' H') ∧ σ[0]? = some (some (.ref f)) ∧ H c' = some (LamX.CodeO c' q) ∧ tl Ec H D.rt)
      rfl rfl L2.takes0 (fun W pn xe tk _ => ?_) (hds_ok hh)), ?_⟩
  · refine ⟨fun pins s' σ H' D I h' => ?_⟩
    obtain ⟨Ec, hW, h1, h2, h3⟩ := h'
    have hp := act W pn xe Ec p1 p2 tk hW
    have hq := pss_one (ps_ret (pos := p3) hp)
    exact hq.run pins s' σ H' D I ⟨h1, h2, h3⟩
  · exact ⟨Ech X.K Q l, fun cls d σ' H' z => ech_many (Dn := { nx := fun _ H' => Q .non H', rt := Q }) z, h0 f, hc, h⟩
/-- the def _law_told, and how its clauses tell the classes apart; nl: the classes' numbers and words -/
structure ToldD (P : Program) (w : World) (K : PySem.W.Frag) (mg : Str → Option Value) (base : Heap) (cl : Nat → Addr) (nl : List (Nat × Str)) : Prop where
  ex : ∃ (g : Addr) (sg : Scope) (Ng : List Str) (pg : Arguments) (dV kV doc pm cdv ct oc : Value) (an od : Option Addr) (osl : Array (Option Value)) (p1 p2 p3 p8 : Pos) (h₀ : ExceptHandler) (hds : List ExceptHandler),
    mg "_law_told" = some (.ref g) ∧ PySem.W.keepIn K (.ref g) = true ∧ K.lookup g = some ⟨oc, od, .func (PySem.W.fnOf "_law_told" "_law_told" pg [.Try [.Return (some (.Call (.Name "what" p1) [] [] p2)) p3] (h₀ :: hds) [] [] p8] sg dV kV doc pm an cdv ct), osl⟩ ∧
      PySem.W.codeIn K cdv "_law_told" = true ∧ L2.Binds K (PySem.W.fnOf "_law_told" "_law_told" pg [.Try [.Return (some (.Call (.Name "what" p1) [] [] p2)) p3] (h₀ :: hds) [] [] p8] sg dV kV doc pm an cdv ct) ["what"] [] ∧
      FnScope Ng ["what"] sg ∧ Ng[0]? = some ("what" : Str) ∧ Vis sg "what" ∧ HdT mg sg (h₀ :: hds) (nl.map fun p => (cl p.1, p.2)) ∧ (∀ f : Addr, (L2.start Ng [V.ref f])[0]? = some (some (V.ref f)))
  exm : ∀ i j, i ∈ nl.map (·.1) → j ∈ nl.map (·.1) → PySem.W.exmOne K (.ref (cl i)) (.ref (cl j)) = some (i == j)
def lamSC (c : SC) (scope : Scope) (k : Nat) (E : XK) : SC := { c with sc := scope, k := k, E := E, st := fun _ => false, T := (c.T.1, false), code := .none, qual := "" }
theorem in_lam {c : SC} {X : Cx} {scope : Scope} {k : Nat} {E : XK} (h : In c X) (A : Around) (outer : List Env) (s : Shared) (H : Hp) (f c' : Addr) (hr : Room k (A.deeper (LamX.lamEnv X scope s.heap.objs.size f c'))) : In (lamSC c scope k E) (LamX.lamCx X A outer s H E scope f c') where
  P := h.P
  w := h.w
  K := h.K
  mg := h.mg
  base := h.base
  N := h.N
  sc := rfl
  calm := rfl
  room := hr
  tk := fun z => nomatch z
  pa := fun σ => passAt (takes_of rfl rfl rfl rfl) σ
  fn := fun x hx => by cases hx
  po := fun z => nomatch z
  code := .inl rfl
def toldName (nl : List (Nat × Str)) (k : Nat) : Option Str := (nl.find? fun p => p.1 == k).map (·.2)
def toldM (nl : List (Nat × Str)) (f : M D) : M D := fun δ => match f (hideOwn δ) with
  | none => none
  | some (.ok d _) => some (.ok d δ)
  | some (.ex k) => (toldName nl k).map fun n => .ok (.str n) δ
theorem ech_of {K : PySem.W.Frag} {Q : VK} {cl : Nat → Addr} {k : Nat} {d : Option Addr} {H : Hp} : ∀ {nl : List (Nat × Str)} {n : Str}, toldName nl k = some n → (∀ j ∈ nl.map (·.1), PySem.W.exmOne K (.ref (cl k)) (.ref (cl j)) = some (k == j)) → Q (.str n) H → Ech K Q (nl.map fun p => (cl p.1, p.2)) (.ref (cl k)) d H
  | [], n, e, _, _ => by cases e
  | (j, m) :: r, n, e, hx, q => by
    refine ⟨k == j, hx j (by simp), fun hb => ?_, fun hb => ?_⟩
    · have : k = j := beq_iff_eq.mp hb
      subst this
      unfold toldName at e
      rw [List.find?_cons_of_pos (by simp)] at e
      cases e
      exact q
    · refine ech_of (n := n) ?_ (fun i hi => hx i (by simp only [List.map_cons, List.mem_cons]; exact .inr hi)) q
      unfold toldName at e ⊢
      rw [List.find?_cons_of_neg] at e
      · exact e
      · intro z
        have : j = k := by simpa using z
        rw [this] at hb
        simp at hb
theorem toldName_mem {nl : List (Nat × Str)} {k : Nat} {n : Str} (e : toldName nl k = some n) : k ∈ nl.map (·.1) := by
  unfold toldName at e
  cases h : nl.find? fun p => p.1 == k with
  | none => rw [h] at e; cases e
  | some p =>
    have h1 := List.find?_some h
    have h2 := List.mem_of_find?_eq_some h
    have : p.1 = k := by simpa using h1
    exact List.mem_map.mpr ⟨p, h2, this⟩
/-- where lambdas are made: the maker's code object and its table -/
structure LamD (c : SC) (C P : Addr) : Prop where
  code : c.code = .ref C
  T : (P, c.qual ++ "<lambda>") ∈ c.T.1
  one : ∀ p ∈ c.T.1, p.1 = P → p.2 = c.qual ++ "<lambda>"
  law : c.T.2 = true
  tb : LamX.TabB c.base c.mg C P
theorem fe_told (k : Nat) {C Pt : Addr} {nl : List (Nat × Str)} {params : Arguments} {body : Expr} {scope : Scope} {f : M D} {p lpos pos : Pos} (Td : ToldD c.P c.w c.K c.mg c.base c.cl nl) (L : LamD c C Pt) (hb : ∀ E, FE (lamSC c scope k E) body f)
    (hk : Nat.ble (k + 2) c.k = true := by rfl) (hL : LamX.lamSB c.sc scope = true := by kernel_rfl) (hg : Gb c "_law_told" := by rfl) (hdef : ∀ env : Env, defaultsOf params env = ([], []) := by intro _; rfl)
    (hbind : ∀ (q : Str) (cl : List (Str × Addr)) (pm cv ctv : Value), bindArgs (PySem.W.kla_fn "<lambda>" q params body scope cl pm cv ctv) ⟨[], []⟩ = pure [] := by intros; rfl) :
    FE c (.Call (.Name "_law_told" p) [.Lambda params body scope lpos] [] pos) (toldM nl f) := by
  obtain ⟨g, sg, Ng, pg, dV, kV, doc, pm, cdv, ct, oc, an, od, osl, p1, p2, p3, p8, h₀, hds, q1, q2, q3, q4, q5, q6, q7, q8, q9, q10⟩ := Td.ex
  obtain ⟨t, ht⟩ : ∃ t : XK → TE, ∀ E, (∀ X, In (lamSC c scope k E) X → PE X body (t E)) ∧ Sp2 (lamSC c scope k E).κ c.cl E (Rep c.K) (t E) f := ⟨fun E => Classical.choose (hb E).ex, fun E => Classical.choose_spec (hb E).ex⟩
  refine ⟨LamX.tLam c.T.1 (TTm c.K (nl.map fun p => (c.cl p.1, p.2))) t, fun X h => ?_, fun F σ G H δ r s e Q p => ?_⟩
  · obtain ⟨hc1, hc2⟩ := h.code.resolve_left (by rw [L.code]; simp)
    have hG : LamX.GivesTo X Ng "_law_told" sg g cdv [.Try [.Return (some (.Call (.Name "what" p1) [] [] p2)) p3] (h₀ :: hds) [] [] p8] "what" (X.env.qual ++ "<lambda>") (TTm X.K (nl.map fun p => (c.cl p.1, p.2))) := gives_many (by rw [h.mg]; exact q9) q10
    rw [h.K] at hG
    exact LamX.pe_lamcall (k := k) (c := C) (P := Pt) (show X.env.scope.names.lookup _ = _ by rw [h.sc]; exact hg) (by rw [h.mg]; exact q1) (by rw [h.K]; exact q2) (by rw [h.K]; exact q3) (by rw [h.K]; exact q4) (by rw [h.K]; exact q5) q6 q7 q8 hG
      (by rw [h.base, h.mg]; exact L.tb) (by rw [hc1]; exact L.code) (by rw [hc2]; exact L.T) (fun x hx hp => by rw [hc2]; exact L.one x hx hp) (h.room.mono (Nat.le_of_ble_eq_true hk)) (LamX.lamS_by (by rw [h.sc]; exact hL)) (hdef _) hbind
      (fun A outer s H E f c' hr => (ht E).1 _ (in_lam h A outer s H f c' hr))
  · refine ⟨s.tab, fun H1 eN T1 => ?_⟩
    have s1 := s.extN eN T1
    have s2 := s1.hide
    unfold toldM at e
    cases hf : f (hideOwn δ) with
    | none => rw [hf] at e; cases e
    | some rr =>
      rw [hf] at e
      show t (Ech c.K Q (nl.map fun p => (c.cl p.1, p.2))) σ H1 Q
      refine (ht (Ech c.K Q (nl.map fun p => (c.cl p.1, p.2)))).2 _ σ G H1 _ rr s2 hf Q ?_
      cases rr with
      | ok d δ' =>
        cases e
        exact fun G' H' v s' g' rv => p G' H' v (s1.after g' s'.sub s'.frm s'.dis s'.ntg s'.tab) g' rv
      | ex n =>
        dsimp only at e
        cases hn : toldName nl n with
        | none => rw [hn] at e; cases e
        | some m =>
          rw [hn] at e
          cases e
          intro G' H' g' h' f' t'
          refine ech_of hn (fun j hj => Td.exm n j (toldName_mem hn) hj) ?_
          exact p G H' _ (s1.after (Same.refl _) (g'.trans h') f' (fun b o q => (besides_at q).1) s1.ntg t') (Same.refl _) (.str _)
end
end FL

set_option Elab.async false
set_option linter.all false
set_option maxRecDepth 100000
set_option maxHeartbeats 2000000
/-! FL9: the law's rounds, and the law. -/
namespace FL
open PySem PySem.Spec PyProof.Rows L2
/-- _law_rounds(script, 1): a new list of one new row of three ints -/
def spRounds (K : PySem.W.Frag) (T : List (Addr × Str)) : Sp := fun vs H Q _ => ∃ (a : Addr) (ns : List Int), vs = [.ref a, .int 1] ∧ SqL K H a (ns.map V.int) ∧ LamX.Tabs T H ∧
  ∀ (H' : Hp) (R p : Addr) (x y z : Int), LamX.Tabs T H' → H' R = some (.lst [.ref p]) → H' p = some (ints3 x y z) → Q (.ref R) H'
theorem SqL.len {K : PySem.W.Frag} {H : Hp} {a : Addr} {xs : List V} (h : SqL K H a xs) : True := trivial
/-- the rounds' def by its last statements -/
theorem ok_rounds {P : Program} {w : World} {K : PySem.W.Frag} {mg : Str → Option Value} {base : Heap} {cl : Nat → Addr} {T : List (Addr × Str)} {a : Addr} {fd : FuncData} {st : Stmt} {N : List Str} {k : Nat} {rest : List Stmt} {rf : Fo} {q1 q2 q3 q4 q5 q6 : Pos}
    (F : Fun K "_law_rounds" "_law_rounds" st a fd) (Sc : FnScope N ["script", "most"] (defScope st)) (hN : N = (["script", "most", "cells", "cell"] : List Str)) (hc : Loc (defScope st) "cells")
    (hst : defBody st = .Assign [.Name "cells" q1] (.Subscript (.Name "script" q2) (.Slice none (some (.Name "most" q3)) none q4) q5) q6 :: rest)
    (body : ∀ E : XK, FS ⟨P, w, K, mg, base, N, defScope st, k, cl, E, fun _ => true, (T, false), .none, ""⟩ rest rf)
    (hrf : ∀ ns : List Int, ∃ x y z, rf [.un, .val (.int 1), .val (.lst ((ns.take 1).map D.int)), .un] = some (.rt (.lst [.lst [.int x, .int y, .int z]]))) :
    FnOk P w K mg base (L2.CX P w) (k + 1) a fd ["script", "most"] (spRounds K T) := by
  subst hN
  refine F.okX Sc (fun vs H Q E h => ?_) (fun cdv A outer s H vs Q E hr h => ?_)
  · obtain ⟨a, ns, rfl, _⟩ := h
    rfl
  · obtain ⟨t, pt, sp⟩ := (body E).ex
    have hin : In ⟨P, w, K, mg, base, ["script", "most", "cells", "cell"], defScope st, k, cl, E, fun _ => true, (T, false), .none, ""⟩ (cxOf (L2.CX P w) P w K mg base ["script", "most", "cells", "cell"] "_law_rounds" (defScope st) a cdv A outer s H E) := ⟨rfl, rfl, rfl, rfl, rfl, rfl, rfl, rfl, hr, fun _ => ⟨takes_of rfl rfl rfl rfl, rfl, rfl⟩, fun σ => passAt (takes_of rfl rfl rfl rfl) σ, fun _ _ => Or.inl rfl, fun _ => passes_of rfl, Or.inl rfl⟩
    rw [hst]
    have v0 : Vis (defScope st) "script" := (Sc.par "script" (by simp)).elim .inl fun z => .inr (.inl z)
    have v1 : Vis (defScope st) "most" := (Sc.par "most" (by simp)).elim .inl fun z => .inr (.inl z)
    refine ⟨_, pss_cons (ps_set (i := 2) Sc.nd rfl hc (pe_slice sl_list (pe_var (i := 0) rfl v0) po_none (po_some (pe_var (i := 1) rfl v1))) (by rfl) (Or.inl rfl)) (pt _ hin), ?_⟩
    obtain ⟨b, ns, rfl, hs, hT, q⟩ := h
    refine ⟨_, rfl, _, rfl, 1, rfl, b, _, rfl, hs, fun L hL => ?_⟩
    obtain ⟨x, y, z, hxyz⟩ := hrf ns
    have cut : cutV (ns.map V.int) none (some 1) = (ns.take 1).map V.int := by
      unfold cutV
      rw [HT.sIx_none]
      show (List.drop 0 (ns.map V.int)).take (HT.sIx _ _ (some ((1 : Nat) : Int)) - 0) = _
      rw [HT.sIx_nat, List.drop_zero, Nat.sub_zero, List.map_take, List.length_map]
      cases ns <;> simp
    rw [cut]
    -- from here by values
    have s0 : S (K, (T, false)) (besides (fun _ => none) H) [some (.ref b), some (.int 1), some (.ref L), none] (upd (fun _ => none) L (.lst ((ns.take 1).map V.int))) (upd H L (.lst ((ns.take 1).map V.int))) [.un, .val (.int 1), .val (.lst ((ns.take 1).map D.int)), .un] := by
      refine ⟨fun c o e => ?_, fun c o e => same_upd hL _ _ (besides_at e).2.1, fun c o e => ?_, rfl, fun i d e => ?_, fun i xs e => ?_, fun i j xs ys _ e => ?_, hT.ext (same_upd hL), fun x hx => ⟨(besides_tab hT).2 x hx, ?_⟩, fun c ps e => ?_, fun c ps e => (besides_at e).2.2 ps rfl, fun z => nomatch z⟩
      · by_cases hb : c = L
        · subst hb; rw [upd_same] at e ⊢; exact e
        · rw [upd_ne hb] at e; cases e
      · rw [upd_ne (ne_of_none (besides_at e).2.1 hL)]
      · match i, e with
        | 0, e => cases e
        | 1, e => cases e; exact ⟨_, rfl, .int 1⟩
        | 2, e => cases e; exact ⟨_, rfl, .lst upd_same (RepL.ints _)⟩
        | 3, e => cases e
        | n + 4, e => simp at e
      · match i, e with
        | 0, e => cases e
        | 1, e => cases e
        | 2, e => cases e
        | 3, e => cases e
        | n + 4, e => simp at e
      · match i, e with
        | 0, e => cases e
        | 1, e => cases e
        | 2, e => cases e
        | 3, e => cases e
        | n + 4, e => simp at e
      · obtain ⟨ps, hp, _⟩ := hT x hx
        rw [upd_ne (ne_of_none hp hL)]
      · by_cases hb : c = L
        · subst hb; rw [upd_same] at e; cases e
        · rw [upd_ne hb] at e; cases e
    refine sp _ _ _ _ _ _ s0 hxyz _ fun σ' G' H' δ' v s' g' rv => ?_
    cases rv with
    | lst h1 h2 =>
      rename_i R xs
      cases h2 with
      | cons ha hb =>
        cases hb
        cases ha with
        | lst h3 h4 =>
          rename_i p ws
          have ew : ws = [V.int x, V.int y, V.int z] := RepL.ints' (ns := [x, y, z]) h4
          subst ew
          exact q H' R p x y z s'.tab (s'.sub _ _ h1) (s'.sub _ _ h3)
/-- the law's promise -/
def spLaw (K : PySem.W.Frag) (T : List (Addr × Str)) : Sp := fun vs H Q _ => ∃ (a : Addr) (ns : List Int), vs = [.ref a] ∧ SqL K H a (ns.map V.int) ∧ (∀ p ∈ T, H p.1 = some (.tbl #[])) ∧ ∀ H', Q (.bl true) H'
def lawD (n i : Nat) (x y z : Int) : De := (List.replicate n Sl.un).set i (.own [.int x, .int y, .int z])
theorem law_ok {P : Program} {w : World} {K : PySem.W.Frag} {mg : Str → Option Value} {base : Heap} {cl : Nat → Addr} {fa fr : Addr} {fdr : FuncData} {params : Arguments} {sc : Scope} {dV kV doc pm cdv ct oc : Value} {an od : Option Addr} {osl : Array (Option Value)} {N : List Str} {k i : Nat} {T : List (Addr × Str)}
    {body rest : List Stmt} {bf rf : Fo} {p1 p2 p3 p4 p5 p6 : Pos} {jj : Nat}
    (lk : K.lookup fa = some ⟨oc, od, .func (PySem.W.fnOf "law" "law" params (.For (.Name "dice" p1) (.Call (.Name "_law_rounds" p2) [.Name "script" p3, .Constant (.int 1) jj p4] [] p5) body [] p6 :: rest) sc dV kV doc pm an cdv ct), osl⟩) (hcd : PySem.W.codeIn K cdv "law" = true)
    (Sc : FnScope N ["script"] sc) (hd : N[i]? = some ("dice" : Str)) (hd0 : i ≠ 0) (hdl : Loc sc "dice") (hv0 : N[0]? = some ("script" : Str))
    (hm : mg "_law_rounds" = some (.ref fr)) (hkp : PySem.W.keepIn K (.ref fr) = true) (hbr : Binds K fdr ["script", "most"] []) (hR : FnOk P w K mg base (L2.CX P w) k fr fdr ["script", "most"] (spRounds K T)) (hgr : sc.names.lookup ("_law_rounds" : Str) = some .globalImplicit)
    (hb : ∀ E : XK, FS ⟨P, w, K, mg, base, N, sc, k, cl, E, fun _ => true, (T, true), cdv, ("law" : Str) ++ (".<locals>." : Str)⟩ body bf) (hr : ∀ E : XK, FS ⟨P, w, K, mg, base, N, sc, k, cl, E, fun _ => true, (T, true), cdv, ("law" : Str) ++ (".<locals>." : Str)⟩ rest rf)
    (fin : ∀ x y z : Int, ∃ δ', bf (lawD N.length i x y z) = some (.nx δ') ∧ rf δ' = some (.rt (.bl true))) :
    FnOk P w K mg base (L2.CX P w) (k + 1) fa (PySem.W.fnOf "law" "law" params (.For (.Name "dice" p1) (.Call (.Name "_law_rounds" p2) [.Name "script" p3, .Constant (.int 1) jj p4] [] p5) body [] p6 :: rest) sc dV kV doc pm an cdv ct) ["script"] (spLaw K T) := by
  refine fn_of lk hcd Sc (fun vs H Q E h => ?_) fun A outer s H vs Q E hrm h => ?_
  · obtain ⟨a, ns, rfl, _⟩ := h
    rfl
  · obtain ⟨tb, pb, sb⟩ := (hb E).ex
    obtain ⟨tr, pr, sr⟩ := (hr E).ex
    have hin : In ⟨P, w, K, mg, base, N, sc, k, cl, E, fun _ => true, (T, true), cdv, ("law" : Str) ++ (".<locals>." : Str)⟩ (cxOf (L2.CX P w) P w K mg base N "law" sc fa cdv A outer s H E) := ⟨rfl, rfl, rfl, rfl, rfl, rfl, rfl, rfl, hrm, fun _ => ⟨takes_of rfl rfl rfl rfl, rfl, rfl⟩, fun σ => passAt (takes_of rfl rfl rfl rfl) σ, fun _ _ => Or.inl rfl, fun _ => passes_of rfl, Or.inr ⟨rfl, rfl⟩⟩
    have v0 : Vis sc "script" := (Sc.par "script" (by simp)).elim .inl fun z => .inr (.inl z)
    refine ⟨_, pss_cons (ps_for (passes_of rfl) rfl (pi_list (pe_callS hR hrm hgr hm hkp hbr (fun σ => passAt (W := fun cls d _ H => E cls d H) (takes_of rfl rfl rfl rfl) σ) (pa_cons (pe_var (i := 0) hv0 v0) (pa_cons pe_int pa_nil)))) (pg_name (i := i) Sc.nd hd hdl (Or.inl rfl)) (pb _ hin)) (pr _ hin), ?_⟩
    obtain ⟨a, ns, rfl, hs, hT, q⟩ := h
    have hN0 : 0 < N.length := by
      obtain ⟨z, _⟩ := List.getElem?_eq_some_iff.mp hv0
      exact z
    have st0 : (L2.start N [V.ref a])[0]? = some (some (V.ref a)) := rfl
    have stl : (L2.start N [V.ref a]).length = N.length := start_len (by show 1 ≤ N.length; exact hN0)
    refine ⟨_, st0, a, ns, rfl, hs, fun p hp => ⟨#[], hT p hp, True.intro, fun pos cv hc => by simp [codeAmong] at hc⟩, fun H1 R p x y z tb hR1 hp1 => ?_⟩
    have nRp : R ≠ p := ne_of hR1 hp1 (by intro e; cases e)
    refine ⟨R, rfl, ⟨_, .inl (.inl hR1)⟩, ?_⟩
    obtain ⟨δ', hbf, hrf⟩ := fin x y z
    have s0 : S (K, (T, true)) (upd (fun _ => none) R (.lst [.ref p])) ((L2.start N [V.ref a]).set i (some (.ref p))) (fun _ => none) H1 (lawD N.length i x y z) := by
      have hil : i < N.length := by
        obtain ⟨z, _⟩ := List.getElem?_eq_some_iff.mp hd
        exact z
      have getd : ∀ (j : Nat) sl, (lawD N.length i x y z)[j]? = some sl → (j = i ∧ sl = .own [.int x, .int y, .int z]) ∨ sl = .un := fun j sl e => by
        unfold lawD at e
        rcases get_set e with ⟨h1, _, h2⟩ | ⟨_, h2⟩
        · exact .inl ⟨h1.symm, h2⟩
        · rw [List.getElem?_replicate] at h2
          split at h2
          · cases h2; exact .inr rfl
          · cases h2
      refine ⟨(fun c o e => nomatch e), fun c o e => ?_, fun c o e => rfl, by unfold lawD; simp [stl], fun j d e => ?_, fun j xs e => ?_, fun j l xs ys hn e1 e2 => ?_, tb, fun t ht => ⟨?_, rfl⟩, (fun c ps e => nomatch e), fun c ps e => ?_, fun _ c ps e => ?_⟩
      · by_cases hb : c = R
        · subst hb; rw [upd_same] at e; rw [← e]; exact hR1
        · rw [upd_ne hb] at e; cases e
      · rcases getd j _ e with ⟨_, z⟩ | z <;> cases z
      · rcases getd j _ e with ⟨hj, z⟩ | z
        · cases z
          subst hj
          refine ⟨p, [.int x, .int y, .int z], ?_, hp1, RepL.ints [x, y, z], rfl, by rw [upd_ne (Ne.symm nRp)]⟩
          rw [List.getElem?_set_self (by rw [stl]; exact hil)]
        · cases z
      · rcases getd j _ e1 with ⟨hj, _⟩ | z
        · rcases getd l _ e2 with ⟨hl, _⟩ | z
          · exact absurd (hj.trans hl.symm) hn
          · cases z
        · cases z
      · rw [upd_ne]
        intro e
        obtain ⟨ps, h1, _⟩ := tb t ht
        rw [e, hR1] at h1
        cases h1
      · by_cases hb : c = R
        · subst hb; rw [upd_same] at e; cases e
        · rw [upd_ne hb] at e; cases e
      · by_cases hb : c = R
        · subst hb; rw [upd_same] at e; exact ⟨_, (Option.some.inj e).symm⟩
        · rw [upd_ne hb] at e; cases e
    refine for_list (K := K) (a := R) (xs := [.ref p]) (fun n σ' H' => (n = 0 ∧ σ' = L2.start N [V.ref a] ∧ H' = H1) ∨ (n = 1 ∧ SqL K H' R [.ref p] ∧ ∃ G', S (K, (T, true)) (upd (fun _ => none) R (.lst [.ref p])) σ' G' H' δ')) (.inl ⟨rfl, rfl, rfl⟩) (fun n σ' H' _ hp => ?_) (fun n v σ' H' hv hp => ?_) (fun σ' H' hp => ?_)
    · rcases hp with ⟨_, rfl, rfl⟩ | ⟨_, h, _⟩
      · exact .inl (.inl hR1)
      · exact h
    · rcases hp with ⟨rfl, rfl, rfl⟩ | ⟨rfl, _⟩
      · cases hv
        refine sb _ _ _ _ _ _ s0 hbf _ fun σ' G' H' s' g' => ?_
        exact .inr ⟨rfl, .inl (.inl (s'.frm R _ upd_same)), G', s'⟩
      · cases hv
    · rcases hp with ⟨h0, _⟩ | ⟨_, _, G', s'⟩
      · cases h0
      · refine sr _ _ _ _ _ _ s' hrf _ fun σ2 G2 H2 δ2 v s2 g2 rv => ?_
        cases rv
        exact q H2
theorem sw_false {elt : Expr} {gs : List Comprehension} {scope : Scope} {pos py : Pos} {y : Str} {l : Nat} {env : Env} (h : env.scope.names.lookup y = some .cell) : swapsWith (.ListComp elt gs scope pos) (some (.Name y py)) l env = pure false := by
  have hk : env.kindOf y = some .cell := h
  show pure (env.blockKind == .function && env.kindOf y == some .local && _ && _) = pure false
  rw [hk]
  have e : (some NameKind.cell == some NameKind.local) = false := by decide
  rw [e]
  simp only [Bool.and_false, Bool.false_and]
def forBody : List Stmt → List Stmt
  | .For _ _ b _ _ :: _ => b
  | _ => []
end FL

set_option Elab.async false
set_option linter.all false
set_option maxRecDepth 100000
set_option maxHeartbeats 2000000
/-! FL10: the end of a law's row. -/
namespace FL
open PySem PySem.Spec PyProof.Rows L2
theorem walk_law {l : PySem.W.OpenLaw} {n k : Nat} {q : Program} {loose : List Str} {XP : (Str → Option Value) → Heap → Prop} {YP : World → Heap → Prop} {d : DefRec} {K : Params → PySem.W.Frag} {x : Str} (cs : List (Addr × Addr)) (T : List (Addr × Str))
    (hTc : ∀ t ∈ T, ∃ p ∈ cs, p.2 = t.1) (hn : l.most = some n) (hn2 : n ≤ sizeLine) (hdf : d.params.defaults = []) (hr : Room k callerA) (hY : ∀ (w : World) (h : Heap), YP w h → (K w.params).In h)
    (hT : ∀ (w : World) (h : Heap), YP w h → ∀ p ∈ cs, h.get? p.2 = some { cls := .none, data := .fields #[] }) (hc : ∀ w : World, ∀ p ∈ cs, PySem.W.codeHdIn (K w.params) p.1 p.2 = true) (hK : ∀ w : World, ∀ p ∈ cs, (K w.params).lookup p.2 = none)
    (F : ∀ (w : World) (mg : Str → Option Value) (fa : Addr) (h : Heap), (K w.params).In h → h.Ns mainGlobals mg → mg d.name = some (.ref fa) →
      ∃ fd : FuncData, (∀ (s : Shared) (u : Value), BindsTo s fd ⟨[u], []⟩ [(x, u)]) ∧ ∀ base : Heap, (K w.params).In base → base.Ns mainGlobals mg → (∀ p ∈ cs, LamX.TabB base mg p.1 p.2) → FnOk l.prog w (K w.params) mg base (L2.CX l.prog w) k fa fd [x] (spLaw (K w.params) T)) :
    PySem.W.WalkO q loose XP YP l.row.toRowW d [] (fun f vs => PySem.call f vs) := by
  refine Att.attach_callB hn hdf fun w s₀ s₁ mg mb fa o pm cd doc a vs ns G Y ho hd hcd hmg hobj hints hlen hbits hg => ?_
  have KX := hY w _ Y
  have hT := hT w _ Y
  obtain ⟨fd, hb, hF⟩ := F w mg fa _ KX G.T.g hmg
  refine LamX.law_callTs (cs := cs) (sp := spLaw (K w.params) T) KX G.T.g G.T.b G.T.builtins G.T.nolimit hg (fun p hp => ?_) (fun p hp => ?_) (fun p hp => ?_) G.T.bmain hobj hints (Nat.le_trans hlen hn2) hr (fun base h1 h2 h3 => hF base h1 h2 h3) hb (fun H hH hS => ?_) fun H e s' hx => ?_
  · exact hT p hp
  · exact hK w p hp
  · exact PySem.W.codeHd_of_K KX (hc w p hp)
  · refine ⟨a, ns, rfl, hS, fun t ht => ?_, fun H' => rfl⟩
    obtain ⟨p, hp, e⟩ := hTc t ht
    rw [← e]
    exact hH p hp
  · obtain ⟨_, _, _, _, _, _, _, _, _, _, _, _, z⟩ := hx
    exact z
theorem const_tup {K : PySem.W.Frag} {h : Heap} {mg : Str → Option Value} {x : Str} {a : Addr} {xs : List V} {ds : List D} {od : Option Addr} {its : Array Value} {n : Nat} {sl : Array (Option Value)} (X : K.In h) (G : h.Ns mainGlobals mg) (ha : PySem.W.nsIn K mainGlobals x = some (some (.ref a))) (hl : K.lookup a = some ⟨.type "tuple", od, .seq its n, sl⟩) (hs : its.size ≤ sizeLine) (hv : Vals xs its.toList) (hd : ∀ G, RepL K G xs ds) : Const K mg x (.tup ds) :=
  ⟨.ref a, .ref a, PySem.W.mg_of X G ha, rfl, fun G => .tup (.inr ⟨_, its, n, hl, rfl, rfl, hs, hv⟩) (hd G)⟩
theorem const_val {K : PySem.W.Frag} {h : Heap} {mg : Str → Option Value} {x : Str} {u : Value} {v : V} {d : D} (X : K.In h) (G : h.Ns mainGlobals mg) (ha : PySem.W.nsIn K mainGlobals x = some (some u)) (r : RelV v u) (hd : ∀ G, Rep K G v d) : Const K mg x d := ⟨v, u, PySem.W.mg_of X G ha, r, hd⟩
def exmAll (K : PySem.W.Frag) (cl : Nat → Addr) (nl : List Nat) : Bool := nl.all fun i => nl.all fun j => decide (PySem.W.exmOne K (.ref (cl i)) (.ref (cl j)) = some (i == j))
theorem exm_all {K : PySem.W.Frag} {cl : Nat → Addr} {nl : List Nat} (h : exmAll K cl nl = true) : ∀ i j, i ∈ nl → j ∈ nl → PySem.W.exmOne K (.ref (cl i)) (.ref (cl j)) = some (i == j) := fun i j hi hj => of_decide_eq_true (List.all_eq_true.mp (List.all_eq_true.mp h i hi) j hj)
end FL

set_option Elab.async false
set_option linter.all false
set_option maxRecDepth 100000
set_option maxHeartbeats 2000000
/-! FL11: what bodies come to, by values. -/
namespace FL
open PySem PySem.Spec PyProof.Rows L2
theorem eqB_int (a b : Int) : eqB (.int a) (.int b) = some (a == b) := rfl
theorem eqB_bl (a b : Bool) : eqB (.bl a) (.bl b) = some (a == b) := rfl
theorem eqB_str {a b : Str} (ha : PyData.strOk a = true) (hb : PyData.strOk b = true) : eqB (.str a) (.str b) = some (a == b) := by
  have e : ∀ {x : Str}, PyData.strOk x = true → SeqAt.shaped (.str x) = true := fun {x} h => by
    unfold SeqAt.shaped PyData.canLay0
    rw [h]; rfl
  unfold eqB toPy
  dsimp only
  rw [e ha, e hb]
  rfl
theorem eqD_int (a b : Int) : eqD (.int a) (.int b) = some (.bl (a == b)) := rfl
theorem neD_int (a b : Int) : neD (.int a) (.int b) = some (.bl (!(a == b))) := rfl
theorem eqD_bl (a b : Bool) : eqD (.bl a) (.bl b) = some (.bl (a == b)) := rfl
theorem neD_bl (a b : Bool) : neD (.bl a) (.bl b) = some (.bl (!(a == b))) := rfl
theorem eqD_int_non (a : Int) : eqD (.int a) .non = some (.bl false) := rfl
theorem toPyL_ints : ∀ xs : List Int, toPyL (xs.map D.int) = some (xs.map PyData.int)
  | [] => rfl
  | x :: xs => by rw [List.map_cons, toPyL, toPyL_ints xs]; rfl
theorem canLay_ints : ∀ xs : List Int, PyData.canLayAll0 (xs.map PyData.int) = true
  | [] => rfl
  | x :: xs => by rw [List.map_cons, PyData.canLayAll0, canLay_ints xs]; rfl
theorem eqv_ints : ∀ xs ys : List Int, PyData.eqvAll (xs.map PyData.int) (ys.map PyData.int) = decide (xs = ys)
  | [], [] => rfl
  | [], y :: ys => rfl
  | x :: xs, [] => rfl
  | x :: xs, y :: ys => by
    rw [List.map_cons, List.map_cons, PyData.eqvAll, eqv_ints xs ys]
    show (x == y && decide (xs = ys)) = decide (x :: xs = y :: ys)
    by_cases h : x = y
    · subst h; simp
    · simp [h]
theorem eqB_ints (xs ys : List Int) : eqB (.lst (xs.map .int)) (.lst (ys.map .int)) = some (decide (xs = ys)) := by
  have sh : ∀ xs : List Int, SeqAt.shaped (.list (xs.map .int)) = true := fun xs => by
    unfold SeqAt.shaped PyData.canLay0 PyData.depth
    rw [canLay_ints, PySem.W.depth_ints]; rfl
  unfold eqB toPy
  rw [toPyL_ints, toPyL_ints]
  simp only [Option.map_some]
  rw [sh, sh]
  show some (PyData.eqvAll _ _) = _
  rw [eqv_ints]
theorem eqB_tups (xs ys : List Int) : eqB (.tup (xs.map .int)) (.tup (ys.map .int)) = some (decide (xs = ys)) := by
  have sh : ∀ xs : List Int, SeqAt.shaped (.tuple (xs.map .int)) = true := fun xs => by
    unfold SeqAt.shaped PyData.canLay0 PyData.depth
    rw [canLay_ints, PySem.W.depth_ints]; rfl
  unfold eqB toPy
  rw [toPyL_ints, toPyL_ints]
  simp only [Option.map_some]
  rw [sh, sh]
  show some (PyData.eqvAll _ _) = _
  rw [eqv_ints]
theorem restD_id {δ δ3 : De} {vs : List Nat} (h1 : δ3.length = δ.length) (h2 : ∀ j, j ∉ vs → δ3[j]? = δ[j]?) : restD δ δ3 vs = δ := by
  apply List.ext_getElem?
  intro j
  rw [restD_get]
  by_cases hj : j ∈ vs
  · rw [if_pos hj]
    by_cases hl : j < δ.length
    · rw [List.getElem?_eq_getElem (show j < δ3.length by omega), List.getElem?_eq_getElem hl]
      rfl
    · rw [List.getElem?_eq_none_iff.mpr (by omega), List.getElem?_eq_none_iff.mpr (by omega)]
      rfl
  · rw [if_neg hj, h2 j hj]
/-- a comprehension whose element is read off the item -/
theorem lcD_map {vs : List Nat} {bd : D → De → Option De} {fe : M D} {g : D → D} {δ : De} (hno : noOwn δ vs = true) : ∀ (ds : List D), (∀ d ∈ ds, ∃ δ1, bd d (wipeD δ vs) = some δ1 ∧ δ1.length = δ.length ∧ (∀ j, j ∉ vs → δ1[j]? = δ[j]?) ∧ fe δ1 = some (.ok (g d) δ1)) →
    lcD vs bd (pureM true) fe ds δ = some (.ok (ds.map g) δ)
  | [], _ => rfl
  | d :: ds, h => by
    obtain ⟨δ1, h1, h2, h3, h4⟩ := h d (by simp)
    rw [lcD, if_pos hno, h1]
    dsimp only [pureM]
    rw [h4]
    dsimp only
    rw [restD_id h2 h3, lcD_map hno ds fun x hx => h x (by simp [hx])]
    rfl
theorem lcD_filter {vs : List Nat} {bd : D → De → Option De} {tt : M Bool} {fe : M D} {p : D → Bool} {g : D → D} {δ : De} (hno : noOwn δ vs = true) : ∀ (ds : List D), (∀ d ∈ ds, ∃ δ1, bd d (wipeD δ vs) = some δ1 ∧ δ1.length = δ.length ∧ (∀ j, j ∉ vs → δ1[j]? = δ[j]?) ∧ tt δ1 = some (.ok (p d) δ1) ∧ (p d = true → fe δ1 = some (.ok (g d) δ1))) →
    lcD vs bd tt fe ds δ = some (.ok ((ds.filter p).map g) δ)
  | [], _ => rfl
  | d :: ds, h => by
    obtain ⟨δ1, h1, h2, h3, h4, h5⟩ := h d (by simp)
    have ih := lcD_filter hno ds fun x hx => h x (by simp [hx])
    rw [lcD, if_pos hno, h1]
    dsimp only
    rw [h4]
    cases hp : p d with
    | false =>
      dsimp only
      rw [restD_id h2 h3, ih, List.filter_cons_of_neg (by simp [hp])]
    | true =>
      dsimp only
      rw [h5 hp]
      dsimp only
      rw [restD_id h2 h3, ih, List.filter_cons_of_pos hp]
      rfl
/-- what a name binds in a comprehension -/
theorem bind1 {v : Nat} {d : D} {δ : De} : ∃ δ1, bName v d (wipeD δ [v]) = some δ1 ∧ δ1 = δ.set v (.val d) ∧ δ1.length = δ.length ∧ ∀ j, j ∉ [v] → δ1[j]? = δ[j]? := by
  refine ⟨δ.set v (.val d), ?_, rfl, by simp, fun j hj => ?_⟩
  · show some (((δ.set v .un)).set v (.val d)) = _
    rw [List.set_set]
  · rw [List.getElem?_set_ne]
    simpa using Ne.symm (by simpa using hj)
theorem bind2 {u v : Nat} {x y : D} {δ : De} (huv : u ≠ v) : ∃ δ1, bTup (bCons (bName u) (bCons (bName v) bNil)) (.tup [x, y]) (wipeD δ [u, v]) = some δ1 ∧ δ1 = (δ.set u (.val x)).set v (.val y) ∧ δ1.length = δ.length ∧ ∀ j, j ∉ [u, v] → δ1[j]? = δ[j]? := by
  refine ⟨(δ.set u (.val x)).set v (.val y), ?_, rfl, by simp, fun j hj => ?_⟩
  · show some ((((δ.set v .un).set u .un).set u (.val x)).set v (.val y)) = _
    rw [List.set_set, List.set_comm _ _ (Ne.symm huv), List.set_set]
  · simp only [List.mem_cons, List.not_mem_nil, or_false, not_or] at hj
    rw [List.getElem?_set_ne (Ne.symm hj.2), List.getElem?_set_ne (Ne.symm hj.1)]
/-- [c + _law_roll(dice, m) for k in ..] -/
theorem rolls {i v : Nat} {c m : Int} (hm : 0 < m ∧ m < 1073741824) (hiv : i ≠ v) : ∀ (ds : List D) (δ : De) (x y z : Int), ownAt δ i = some [.int x, .int y, .int z] → ownAt δ v = none →
    ∃ (rs : List Int) (x' y' z' : Int), rs.length = ds.length ∧ (∀ r ∈ rs, c ≤ r ∧ r < c + m) ∧ lcD [v] (bName v) (pureM true) (bin2 addD (pureM (.int c)) (rollM i (pureM (.int m)))) ds δ = some (.ok (rs.map .int) (δ.set i (.own [.int x', .int y', .int z'])))
  | [], δ, x, y, z, h, _ => by
    have e := ownAt_some h
    have hl : i < δ.length := (List.getElem?_eq_some_iff.mp e).1
    refine ⟨[], x, y, z, rfl, by simp, ?_⟩
    rw [lcD]
    congr 2
    apply List.ext_getElem?
    intro j
    by_cases hj : i = j
    · subst hj; rw [List.getElem?_set_self hl, e]
    · rw [List.getElem?_set_ne hj]
  | d :: ds, δ, x, y, z, h, hv => by
    have e := ownAt_some h
    have hl : i < δ.length := (List.getElem?_eq_some_iff.mp e).1
    have r0 := rollF_lo x y z m hm.1
    have r1 := rollF_hi x y z m hm.1
    generalize hr : rollF x y z m = rr at r0 r1
    obtain ⟨r, x1, y1, z1⟩ := rr
    have own1 : ownAt (δ.set i (.own [.int x1, .int y1, .int z1])) i = some [.int x1, .int y1, .int z1] := by
      unfold ownAt; rw [List.getElem?_set_self hl]
    have ownv : ownAt (δ.set i (.own [.int x1, .int y1, .int z1])) v = none := by
      unfold ownAt at hv ⊢; rw [List.getElem?_set_ne hiv]; exact hv
    obtain ⟨rs, x', y', z', h1, h2, h3⟩ := rolls hm hiv ds (δ.set i (.own [.int x1, .int y1, .int z1])) x1 y1 z1 own1 ownv
    refine ⟨(c + r) :: rs, x', y', z', by simp [h1], fun q hq => ?_, ?_⟩
    · rcases List.mem_cons.mp hq with rfl | hq
      · dsimp only at r0 r1; omega
      · exact h2 q hq
    · have no : noOwn δ [v] = true := by unfold noOwn; simp [hv]
      have st : ∀ δ : De, bName v d (wipeD δ [v]) = some (δ.set v (.val d)) := fun δ => by
        show some ((δ.set v .un).set v (.val d)) = _
        rw [List.set_set]
      rw [lcD, if_pos no, st]
      dsimp only [pureM]
      have ow : ownAt (δ.set v (.val d)) i = some [.int x, .int y, .int z] := by
        unfold ownAt; rw [List.getElem?_set_ne (Ne.symm hiv), e]
      have ev : bin2 addD (pureM (.int c)) (rollM i (pureM (.int m))) (δ.set v (.val d)) = some (.ok (.int (c + r)) ((δ.set v (.val d)).set i (.own [.int x1, .int y1, .int z1]))) := by
        unfold bin2 bindM rollM pureM
        dsimp only
        rw [ow]
        unfold bindM rollK
        dsimp only
        rw [ow]
        dsimp only
        rw [if_pos hm, hr]
        rfl
      rw [ev]
      dsimp only
      have er : restD δ ((δ.set v (.val d)).set i (.own [.int x1, .int y1, .int z1])) [v] = δ.set i (.own [.int x1, .int y1, .int z1]) := by
        apply List.ext_getElem?
        intro j
        rw [restD_get]
        by_cases hj : j = v
        · subst hj
          rw [if_pos (by simp), List.getElem?_set_ne hiv, List.getElem?_set_ne hiv, List.getElem?_set]
          by_cases hl : j < δ.length
          · simp [hl]
          · simp [hl]
        · rw [if_neg (by simpa using hj)]
          by_cases hi : i = j
          · subst hi
            rw [List.getElem?_set_self (by simpa using hl), List.getElem?_set_self hl]
          · rw [List.getElem?_set_ne hi, List.getElem?_set_ne hi, List.getElem?_set_ne (Ne.symm hj)]
      rw [er, h3]
      dsimp only
      rw [List.set_set]
      rfl
theorem seqS_nx {f g : Fo} {δ δ' : De} (h : f δ = some (.nx δ')) : seqS f g δ = g δ' := by unfold seqS; rw [h]
theorem thenS_ok {α : Type} {m : M α} {k : α → Fo} {δ δ' : De} {a : α} (h : m δ = some (.ok a δ')) : thenS m k δ = k a δ' := by unfold thenS; rw [h]
theorem own_at {δ : De} {i : Nat} {xs : List D} (h : δ[i]? = some (.own xs)) : ownAt δ i = some xs := by unfold ownAt; rw [h]
theorem roll1 {i : Nat} {m x y z : Int} {δ : De} (hm : 0 < m ∧ m < 1073741824) (h : ownAt δ i = some [.int x, .int y, .int z]) :
    ∃ r x' y' z' : Int, 0 ≤ r ∧ r < m ∧ rollM i (pureM (.int m)) δ = some (.ok (.int r) (δ.set i (.own [.int x', .int y', .int z']))) := by
  refine ⟨(rollF x y z m).1, (rollF x y z m).2.1, (rollF x y z m).2.2.1, (rollF x y z m).2.2.2, rollF_lo x y z m hm.1, rollF_hi x y z m hm.1, ?_⟩
  unfold rollM
  rw [h]
  dsimp only [FL.bindM, pureM]
  unfold rollK
  rw [h]
  dsimp only
  rw [if_pos hm]
theorem lcM_rolls {i v : Nat} {c m x y z : Int} {items : M (List D)} {δ δ1 : De} {ds : List D} (hm : 0 < m ∧ m < 1073741824) (hiv : i ≠ v) (hi : items δ = some (.ok ds δ1)) (hl : ds.length < 1000000) (h : ownAt δ1 i = some [.int x, .int y, .int z]) (hv : ownAt δ1 v = none) :
    ∃ (rs : List Int) (x' y' z' : Int), rs.length = ds.length ∧ (∀ r ∈ rs, c ≤ r ∧ r < c + m) ∧ lcM [v] (bName v) (pureM true) (bin2 addD (pureM (.int c)) (rollM i (pureM (.int m)))) items δ = some (.ok (.lst (rs.map .int)) (δ1.set i (.own [.int x', .int y', .int z']))) := by
  obtain ⟨rs, x', y', z', h1, h2, h3⟩ := rolls (c := c) hm hiv ds δ1 x y z h hv
  refine ⟨rs, x', y', z', h1, h2, ?_⟩
  unfold lcM
  rw [bindM_ok hi, if_pos hl, bindM_ok h3]
  rfl
theorem lcM_map {vs : List Nat} {bd : D → De → Option De} {fe : M D} {g : D → D} {items : M (List D)} {δ δ1 : De} {ds : List D} (hi : items δ = some (.ok ds δ1)) (hl : ds.length < 1000000) (hno : noOwn δ1 vs = true)
    (h : ∀ d ∈ ds, ∃ δ2, bd d (wipeD δ1 vs) = some δ2 ∧ δ2.length = δ1.length ∧ (∀ j, j ∉ vs → δ2[j]? = δ1[j]?) ∧ fe δ2 = some (.ok (g d) δ2)) : lcM vs bd (pureM true) fe items δ = some (.ok (.lst (ds.map g)) δ1) := by
  unfold lcM
  rw [bindM_ok hi, if_pos hl, bindM_ok (lcD_map hno ds h)]
  rfl
theorem lcM_filter {vs : List Nat} {bd : D → De → Option De} {tt : M Bool} {fe : M D} {p : D → Bool} {g : D → D} {items : M (List D)} {δ δ1 : De} {ds : List D} (hi : items δ = some (.ok ds δ1)) (hl : ds.length < 1000000) (hno : noOwn δ1 vs = true)
    (h : ∀ d ∈ ds, ∃ δ2, bd d (wipeD δ1 vs) = some δ2 ∧ δ2.length = δ1.length ∧ (∀ j, j ∉ vs → δ2[j]? = δ1[j]?) ∧ tt δ2 = some (.ok (p d) δ2) ∧ (p d = true → fe δ2 = some (.ok (g d) δ2))) : lcM vs bd tt fe items δ = some (.ok (.lst ((ds.filter p).map g)) δ1) := by
  unfold lcM
  rw [bindM_ok hi, if_pos hl, bindM_ok (lcD_filter hno ds h)]
  rfl
theorem cut_tail {α : Type} (xs : List α) : cutL xs (some 1) none = xs.tail := by
  unfold cutL
  rw [show HT.sIx xs.length 0 (some 1) = min 1 xs.length from HT.sIx_nat xs.length 0 1, HT.sIx_none]
  cases xs with
  | nil => rfl
  | cons x r =>
    rw [show min 1 (x :: r).length = 1 by simp]
    simp
theorem zipL_ints : ∀ (xs ys : List Int), zipL (xs.map .int) (ys.map .int) = (xs.zip ys).map fun p => .tup [.int p.1, .int p.2]
  | [], ys => by simp [zipL]
  | x :: xs, [] => by simp [zipL]
  | x :: xs, y :: ys => by simp [zipL, zipL_ints xs ys]
end FL

set_option Elab.async false
set_option linter.all false
set_option maxRecDepth 100000
set_option maxHeartbeats 2000000
/-! FL12: going on through a body, statement by statement. -/
namespace FL
open PySem PySem.Spec PyProof.Rows L2
def Nx (f : Fo) (δ : De) : Prop := ∃ δ', f δ = some (.nx δ')
theorem nx_seq {f g : Fo} {δ : De} (δ' : De) (h : f δ = some (.nx δ')) (k : Nx g δ') : Nx (seqS f g) δ := by
  obtain ⟨x, hx⟩ := k
  exact ⟨x, by rw [seqS_nx h]; exact hx⟩
theorem rt_seq {f g : Fo} {δ δ' : De} {o : Option Out} (h : f δ = some (.nx δ')) (k : g δ' = o) : seqS f g δ = o := by rw [seqS_nx h]; exact k
theorem if_no {m : M Bool} {f : Fo} {δ : De} (h : m δ = some (.ok false δ)) : thenS m (fun k => if k then f else nxS) δ = some (.nx δ) := by rw [thenS_ok h]; rfl
theorem not_no {m : M Bool} {δ : De} (h : m δ = some (.ok true δ)) : bindM m (fun k => pureM (!k)) δ = some (.ok false δ) := by rw [bindM_ok h]; rfl
theorem or_no {f g : M Bool} {δ : De} (h1 : f δ = some (.ok false δ)) (h2 : g δ = some (.ok false δ)) : orT f g δ = some (.ok false δ) := by
  unfold orT; rw [bindM_ok h1]; exact h2
theorem and_no1 {f g : M Bool} {δ : De} (h1 : f δ = some (.ok false δ)) : andT f g δ = some (.ok false δ) := by
  unfold andT; rw [bindM_ok h1]; rfl
theorem and_2 {f g : M Bool} {δ : De} {b : Bool} (h1 : f δ = some (.ok true δ)) (h2 : g δ = some (.ok b δ)) : andT f g δ = some (.ok b δ) := by
  unfold andT; rw [bindM_ok h1]; exact h2
theorem bin2_of {g : D → D → Option D} {m n : M D} {x y d : D} {δ δ1 δ2 : De} (h1 : m δ = some (.ok x δ1)) (h2 : n δ1 = some (.ok y δ2)) (h3 : g x y = some d) : bin2 g m n δ = some (.ok d δ2) := by
  unfold bin2; rw [bindM_ok h1, bindM_ok h2, h3]; rfl
theorem tst_of {m : M D} {b : Bool} {δ δ1 : De} (h : m δ = some (.ok (.bl b) δ1)) : tst m δ = some (.ok b δ1) := by
  unfold tst; rw [bindM_ok h]; rfl
theorem ne_no {m n : M D} {x y : D} {δ δ1 δ2 : De} (h1 : m δ = some (.ok x δ1)) (h2 : n δ1 = some (.ok y δ2)) (h3 : eqB x y = some true) : tst (bin2 neD m n) δ = some (.ok false δ2) :=
  tst_of (bin2_of h1 h2 (by unfold neD; rw [h3]; rfl))
theorem eq_of {m n : M D} {x y : D} {b : Bool} {δ δ1 δ2 : De} (h1 : m δ = some (.ok x δ1)) (h2 : n δ1 = some (.ok y δ2)) (h3 : eqB x y = some b) : tst (bin2 eqD m n) δ = some (.ok b δ2) :=
  tst_of (bin2_of h1 h2 (by unfold eqD; rw [h3]; rfl))
theorem call_of {f : DF} {m : M (List D)} {ds : List D} {d : D} {δ δ1 : De} (h1 : m δ = some (.ok ds δ1)) (h2 : f ds = some (.ret d)) : callM f m δ = some (.ok d δ1) := by
  unfold callM; rw [bindM_ok h1, h2]; rfl
theorem cb_of {g : List D → Option D} {m : M (List D)} {ds : List D} {d : D} {δ δ1 : De} (h1 : m δ = some (.ok ds δ1)) (h2 : g ds = some d) : callB g m δ = some (.ok d δ1) := by
  unfold callB; rw [bindM_ok h1, h2]; rfl
theorem cons_of {m : M D} {n : M (List D)} {d : D} {ds : List D} {δ δ1 δ2 : De} (h1 : m δ = some (.ok d δ1)) (h2 : n δ1 = some (.ok ds δ2)) : consM m n δ = some (.ok (d :: ds) δ2) := by
  unfold consM; rw [bindM_ok h1, bindM_ok h2]; rfl
theorem one_of {m : M D} {d : D} {δ δ1 : De} (h1 : m δ = some (.ok d δ1)) : consM m (pureM []) δ = some (.ok [d] δ1) := cons_of h1 rfl
theorem itM_of {g : List D → Option (List D)} {m : M (List D)} {ds es : List D} {δ δ1 : De} (h1 : m δ = some (.ok ds δ1)) (h2 : g ds = some es) : itM g m δ = some (.ok es δ1) := by
  unfold itM; rw [bindM_ok h1, h2]; rfl
theorem var_of {i : Nat} {d : D} {δ : De} (h : δ[i]? = some (.val d)) : varM i δ = some (.ok d δ) := by unfold varM; rw [h]
theorem told_ex {nl : List (Nat × Str)} {m : M D} {δ : De} {k : Nat} {n : Str} (h : m (hideOwn δ) = some (.ex k)) (hn : toldName nl k = some n) : toldM nl m δ = some (.ok (.str n) δ) := by
  unfold toldM; rw [h]; dsimp only; rw [hn]; rfl
theorem lst_of {m : M (List D)} {ds : List D} {δ δ1 : De} (h : m δ = some (.ok ds δ1)) (hl : ds.length ≤ 1000000) : lstM m δ = some (.ok (.lst ds) δ1) := by
  unfold lstM; rw [bindM_ok h, if_pos hl]; rfl
theorem eqB_nil : eqB (.lst []) (.lst []) = some true := rfl
theorem eqB_tnil : eqB (.tup []) (.tup []) = some true := rfl
theorem rng1_len {n : Nat} (h : n < 1000000) : rng1 [.int (n : Int)] = some (rangeL 0 n) := by
  unfold rng1
  dsimp only
  rw [if_pos (by unfold inR; omega)]
  rfl
theorem rng1_pred {n : Nat} (h : n < 1000000) : rng1 [.int ((n : Int) - 1)] = some (rangeL 0 (n - 1)) := by
  unfold rng1
  dsimp only
  rw [if_pos (by unfold inR; omega)]
  rw [show ((n : Int) - 1).toNat = n - 1 by omega]
theorem rangeL_mem {lo : Int} {n : Nat} {d : D} (h : d ∈ rangeL lo n) : ∃ k : Nat, k < n ∧ d = .int (lo + k) := by
  unfold rangeL at h
  obtain ⟨k, hk, rfl⟩ := List.mem_map.mp h
  exact ⟨k, List.mem_range.mp hk, rfl⟩
theorem at_int {t : List Int} {k : Nat} (h : k < t.length) : ixD (.lst (t.map .int)) (.int (k : Int)) = some (.int (t.getD k 0)) := by
  show atI _ _ = _
  refine atI_nat ?_
  rw [List.getElem?_map, List.getElem?_eq_getElem h, List.getD_eq_getElem?_getD, List.getElem?_eq_getElem h]
  rfl
theorem at_int1 {t : List Int} {k : Nat} (h : k + 1 < t.length) : ixD (.lst (t.map .int)) (.int ((k : Int) + 1)) = some (.int (t.getD (k + 1) 0)) := at_int h
theorem maxL_eq {t : List Int} (h : t ≠ []) : maxD [.lst (t.map .int)] = some (.int (maxL t)) := by
  unfold maxD; dsimp only; rw [intsOf_map]; cases t with
  | nil => exact absurd rfl h
  | cons x r => rfl
theorem minL_eq {t : List Int} (h : t ≠ []) : minD [.lst (t.map .int)] = some (.int (minL t)) := by
  unfold minD; dsimp only; rw [intsOf_map]; cases t with
  | nil => exact absurd rfl h
  | cons x r => rfl
theorem enum_ints : ∀ (t : List Int) (k : Nat), enumFrom k (t.map .int) = (List.range t.length).map fun i => .tup [.int ((k + i : Nat) : Int), .int (t.getD i 0)]
  | [], k => rfl
  | x :: r, k => by
    rw [List.map_cons, enumFrom, enum_ints r (k + 1), List.length_cons, List.range_succ_eq_map, List.map_cons, List.map_map]
    congr 1
    apply List.map_congr_left
    intro i _
    simp [Nat.add_assoc, Nat.add_comm 1 i]
theorem enum_mem {t : List Int} {d : D} (h : d ∈ enumFrom 0 (t.map .int)) : ∃ k : Nat, k < t.length ∧ d = .tup [.int (k : Int), .int (t.getD k 0)] := by
  rw [enum_ints] at h
  obtain ⟨k, hk, rfl⟩ := List.mem_map.mp h
  exact ⟨k, List.mem_range.mp hk, by simp⟩
theorem flatL_ints : ∀ xs : List Int, flatL (xs.map .int) = some (xs.map V.int)
  | [] => rfl
  | x :: xs => by rw [List.map_cons, flatL, flatL_ints xs]; rfl
theorem in_ints (r : Int) (xs : List Int) : inD false (.int r) (.lst (xs.map .int)) = some (.bl (xs.any fun x => x == r)) := by
  unfold inD inB flatOf
  dsimp only
  rw [flatL_ints]
  show some (D.bl (inV (.int r) (xs.map V.int))) = _
  unfold inV
  rw [List.any_map]
  rfl
theorem in_tints (r : Int) (xs : List Int) : inD false (.int r) (.tup (xs.map .int)) = some (.bl (xs.any fun x => x == r)) := by
  unfold inD inB flatOf
  dsimp only
  rw [flatL_ints]
  show some (D.bl (inV (.int r) (xs.map V.int))) = _
  unfold inV
  rw [List.any_map]
  rfl
theorem andM_of {m n : M D} {p q : Bool} {δ : De} (h1 : m δ = some (.ok (.bl p) δ)) (h2 : n δ = some (.ok (.bl q) δ)) : andM m n δ = some (.ok (.bl (p && q)) δ) := by
  unfold andM; rw [bindM_ok h1]; cases p
  · rfl
  · exact h2

theorem forD_inv {bd : D → De → Option De} {f : Fo} {J : De → Prop} : ∀ (ds : List D) (δ : De), (∀ d ∈ ds, ∀ δ, J δ → ∃ δ1 δ2, bd d δ = some δ1 ∧ f δ1 = some (.nx δ2) ∧ J δ2) → J δ → ∃ δ', forD bd f ds δ = some (.nx δ') ∧ J δ'
  | [], δ, _, h => ⟨δ, rfl, h⟩
  | d :: ds, δ, hs, h => by
    obtain ⟨δ1, δ2, e1, e2, h2⟩ := hs d (by simp) δ h
    obtain ⟨δ', e3, h3⟩ := forD_inv ds δ2 (fun x hx => hs x (by simp [hx])) h2
    refine ⟨δ', ?_, h3⟩
    rw [forD, e1]
    dsimp only
    rw [e2]
    exact e3
/-- a comprehension whose element throws the dice -/
theorem dice_lc {i v : Nat} {fe : M D} {P : D → Prop} (hiv : i ≠ v) (hf : ∀ (δ : De) (x y z : Int), ownAt δ i = some [.int x, .int y, .int z] → ∃ (d : D) (x' y' z' : Int), P d ∧ fe δ = some (.ok d (δ.set i (.own [.int x', .int y', .int z'])))) :
    ∀ (ds : List D) (δ : De) (x y z : Int), ownAt δ i = some [.int x, .int y, .int z] → ownAt δ v = none →
    ∃ (es : List D) (x' y' z' : Int), es.length = ds.length ∧ (∀ e ∈ es, P e) ∧ lcD [v] (bName v) (pureM true) fe ds δ = some (.ok es (δ.set i (.own [.int x', .int y', .int z'])))
  | [], δ, x, y, z, h, _ => by
    have e := ownAt_some h
    have hl : i < δ.length := (List.getElem?_eq_some_iff.mp e).1
    refine ⟨[], x, y, z, rfl, by simp, ?_⟩
    rw [lcD]
    congr 2
    apply List.ext_getElem?
    intro j
    by_cases hj : i = j
    · subst hj; rw [List.getElem?_set_self hl, e]
    · rw [List.getElem?_set_ne hj]
  | d :: ds, δ, x, y, z, h, hv => by
    have e := ownAt_some h
    have hl : i < δ.length := (List.getElem?_eq_some_iff.mp e).1
    have ow : ownAt (δ.set v (.val d)) i = some [.int x, .int y, .int z] := by
      unfold ownAt; rw [List.getElem?_set_ne (Ne.symm hiv), e]
    obtain ⟨r, x1, y1, z1, hp, ev⟩ := hf _ _ _ _ ow
    have own1 : ownAt (δ.set i (.own [.int x1, .int y1, .int z1])) i = some [.int x1, .int y1, .int z1] := by
      unfold ownAt; rw [List.getElem?_set_self hl]
    have ownv : ownAt (δ.set i (.own [.int x1, .int y1, .int z1])) v = none := by
      unfold ownAt at hv ⊢; rw [List.getElem?_set_ne hiv]; exact hv
    obtain ⟨rs, x', y', z', h1, h2, h3⟩ := dice_lc hiv hf ds (δ.set i (.own [.int x1, .int y1, .int z1])) x1 y1 z1 own1 ownv
    refine ⟨r :: rs, x', y', z', by simp [h1], fun q hq => ?_, ?_⟩
    · rcases List.mem_cons.mp hq with rfl | hq
      · exact hp
      · exact h2 q hq
    · have no : noOwn δ [v] = true := by unfold noOwn; simp [hv]
      have st : ∀ δ : De, bName v d (wipeD δ [v]) = some (δ.set v (.val d)) := fun δ => by
        show some ((δ.set v .un).set v (.val d)) = _
        rw [List.set_set]
      rw [lcD, if_pos no, st]
      dsimp only [pureM]
      rw [ev]
      dsimp only
      have er : restD δ ((δ.set v (.val d)).set i (.own [.int x1, .int y1, .int z1])) [v] = δ.set i (.own [.int x1, .int y1, .int z1]) := by
        apply List.ext_getElem?
        intro j
        rw [restD_get]
        by_cases hj : j = v
        · subst hj
          rw [if_pos (by simp), List.getElem?_set_ne hiv, List.getElem?_set_ne hiv, List.getElem?_set]
          by_cases hl : j < δ.length
          · simp [hl]
          · simp [hl]
        · rw [if_neg (by simpa using hj)]
          by_cases hi : i = j
          · subst hi
            rw [List.getElem?_set_self (by simpa using hl), List.getElem?_set_self hl]
          · rw [List.getElem?_set_ne hi, List.getElem?_set_ne hi, List.getElem?_set_ne (Ne.symm hj)]
      rw [er, h3]
      dsimp only
      rw [List.set_set]
theorem lcM_dice {i v : Nat} {fe : M D} {P : D → Prop} {items : M (List D)} {δ δ1 : De} {ds : List D} {x y z : Int} (hiv : i ≠ v) (hf : ∀ (δ : De) (x y z : Int), ownAt δ i = some [.int x, .int y, .int z] → ∃ (d : D) (x' y' z' : Int), P d ∧ fe δ = some (.ok d (δ.set i (.own [.int x', .int y', .int z']))))
    (hi : items δ = some (.ok ds δ1)) (hl : ds.length < 1000000) (h : ownAt δ1 i = some [.int x, .int y, .int z]) (hv : ownAt δ1 v = none) :
    ∃ (es : List D) (x' y' z' : Int), es.length = ds.length ∧ (∀ e ∈ es, P e) ∧ lcM [v] (bName v) (pureM true) fe items δ = some (.ok (.lst es) (δ1.set i (.own [.int x', .int y', .int z']))) := by
  obtain ⟨es, x', y', z', h1, h2, h3⟩ := dice_lc hiv hf ds δ1 x y z h hv
  refine ⟨es, x', y', z', h1, h2, ?_⟩
  unfold lcM
  rw [bindM_ok hi, if_pos hl, bindM_ok h3]
  rfl
end FL

set_option Elab.async false
set_option linter.all false
set_option maxRecDepth 100000
set_option maxHeartbeats 2000000
/-! FL13: lambdas that are kept and called later. -/
namespace FL
open PySem PySem.Spec PyProof.Rows L2
theorem clo_nil {cells : List (Str × Addr)} {names : List (Str × NameKind)} (h : ∀ y ∈ names, y.2 ≠ .free) : cloFrom cells names [] = [] := by
  refine List.eq_nil_iff_forall_not_mem.mpr fun z hz => ?_
  rcases cloFrom_mem (n := z.1) (c := z.2) hz with q | ⟨q, _⟩
  · cases q
  · exact h _ q rfl
theorem lamO_ok {P : Program} {w : World} {H : Hp} {h : Heap} {L : Lam} {f c' : Addr} {pm ctv : Value} (e : h.get? f = some (PySem.W.kla_obj "<lambda>" L.q L.params L.body L.scope [] pm c' ctv)) : ObjOk P w H h f (LamO L f c') :=
  ⟨⟨pm, ctv, e⟩, ⟨_, e⟩, fun _ _ ⟨a, b, z⟩ st => ⟨a, b, st _ z⟩⟩
section
variable {X : Cx} {pins : List (Addr × Obj)} {σ : L2.St} {H : Hp} {s : Shared}
/-- the lambda is made, and known from then on -/
theorem mk_lam (ix : Nat) {T : List (Addr × Str)} {C P : Addr} {params : Arguments} {body : Expr} {scope : Scope} {pos : Pos} {Ex Q : Value → Shared → Prop} (I : Inv X pins σ H s) (B : LamX.TabB X.base X.mg C P) (hco : X.env.code = .ref C)
    (inT : (P, X.env.qual ++ "<lambda>") ∈ T) (one : ∀ p ∈ T, p.1 = P → p.2 = X.env.qual ++ "<lambda>") (tabs : LamX.Tabs T H) (nd : defaultsOf params X.env = ([], [])) (nf : ∀ y ∈ scope.names, y.2 ≠ .free)
    (k : ∀ (f c' : Addr) (H1 : Hp) (s' : Shared), Inv X pins σ (upd H1 f (LamO ⟨params, body, scope, X.env.qual ++ "<lambda>", ix⟩ f c')) s' → LamX.ExtN H H1 → LamX.Tabs T H1 → H1 f = none → H1 c' = some (LamX.CodeO c' (X.env.qual ++ "<lambda>")) → Q (.ref f) s') :
    wpAny (model X.prog X.w) X.A (eval (.Lambda params body scope pos) X.env) Q Ex s := by
  obtain ⟨ps, tP, tri, am⟩ := tabs _ inT
  have cl0 : closureFor scope X.env = pure [] := by
    rw [← clo_nil (cells := X.env.cells) nf]
    exact closure_ok fun y hy e => absurd e (nf y hy)
  have sP := I.hok P _ tP
  apply PySem.W.kla_eval nd
  cases found : codeAmong pos ps.toList with
  | some cv =>
    obtain ⟨c', e, hk⟩ := am pos cv found
    subst e
    apply PySem.W.kla_makeFunctionHit (mg := X.mg) (c := C) (P := P) (ps := ps) cl0 I.ok.glob (I.mod.glob.keeps I.bk) hco (B.code.keeps I.bk) sP tri found (B.bm.keeps I.bk)
    intro ctv h' tk ext big
    have J := I.laid (a := h'.objs.size) (o := LamO ⟨params, body, scope, X.env.qual ++ "<lambda>", ix⟩ h'.objs.size c') (t' := tk) (h' := h'.push (PySem.W.kla_obj "<lambda>" (X.env.qual ++ "<lambda>") params body scope [] ((X.mg "__name__").getD .none) c' ctv))
      (fun b o e => Heap.get?_push_of_some _ (ext b o e)) big (lamO_ok (Heap.get?_push_size _ rfl))
    exact k _ c' H _ J (.refl H) tabs (I.hok.fresh big) hk
  | none =>
    apply PySem.W.kla_makeFunction (mg := X.mg) (c := C) (P := P) (ps := ps) cl0 I.ok.glob (I.mod.glob.keeps I.bk) hco (B.code.keeps I.bk) sP tri found B.gP (B.bm.keeps I.bk)
    intro c' ctv h' tk ext ge lt rec tb
    obtain ⟨c2, oc, vs, t, e2, r1, r2, r3⟩ := rec
    cases e2
    have big : s.heap.objs.size ≤ h'.objs.size := Nat.le_trans ge (Nat.le_of_lt lt)
    have nC : H c' = none := I.hok.fresh ge
    have J := LamX.inv_table (t' := tk) (more := #[rawInt pos.line, rawInt pos.col, .ref c']) I tP ext tb ge ⟨oc, vs, t, r1, r2, r3⟩
    have J2 := J.laid (a := h'.objs.size) (o := LamO ⟨params, body, scope, X.env.qual ++ "<lambda>", ix⟩ h'.objs.size c') (t' := tk) (h' := h'.push (PySem.W.kla_obj "<lambda>" (X.env.qual ++ "<lambda>") params body scope [] ((X.mg "__name__").getD .none) c' ctv))
      (fun b o e => Heap.get?_push_of_some _ e) (Nat.le_refl _) (lamO_ok (Heap.get?_push_size _ rfl))
    have grow : LamX.ExtN H (upd (upd H P (.tbl (ps ++ #[rawInt pos.line, rawInt pos.col, .ref c']))) c' (LamX.CodeO c' (X.env.qual ++ "<lambda>"))) := fun b o e n => by
      have nP : b ≠ P := fun z => by subst z; rw [tP] at e; exact n ps (Option.some.inj e).symm
      rw [upd_ne (ne_of_none e nC), upd_ne nP, e]
    refine k _ c' _ _ J2 grow (fun p hp => ?_) (J.hok.fresh (Nat.le_refl _)) upd_same
    have toL : (ps ++ #[rawInt pos.line, rawInt pos.col, .ref c']).toList = ps.toList ++ [rawInt pos.line, rawInt pos.col, .ref c'] := by simp
    by_cases hb : p.1 = P
    · have pc : P ≠ c' := ne_of_none tP nC
      rw [hb, one p hp hb]
      refine ⟨ps ++ #[rawInt pos.line, rawInt pos.col, .ref c'], by rw [upd_ne pc, upd_same], ?_, fun p' cv e => ?_⟩
      · rw [toL]; exact PySem.TriplesOk_snoc _ _ _ _ tri
      · rw [toL] at e
        rcases LamX.among_app _ tri e with z | z
        · obtain ⟨d, d1, d2⟩ := am p' cv z
          exact ⟨d, d1, grow _ _ d2 LamX.codeO_ne⟩
        · exact ⟨c', z, upd_same⟩
    · obtain ⟨qs, a1, a2, a3⟩ := tabs p hp
      refine ⟨qs, by rw [upd_ne (ne_of_none a1 nC), upd_ne hb]; exact a1, a2, fun p' cv e => ?_⟩
      obtain ⟨d, d1, d2⟩ := a3 p' cv e
      exact ⟨d, d1, grow _ _ d2 LamX.codeO_ne⟩
end
def tMk (T : List (Addr × Str)) (L : Lam) : TE := fun _ H Q => LamX.Tabs T H ∧ ∀ (H1 : Hp) (f c' : Addr), LamX.ExtN H H1 → LamX.Tabs T H1 → H1 f = none → H1 c' = some (LamX.CodeO c' L.q) → Q (.ref f) (upd H1 f (LamO L f c'))
theorem pe_mk (ix : Nat) {X : Cx} {T : List (Addr × Str)} {C P : Addr} {params : Arguments} {body : Expr} {scope : Scope} {pos : Pos} (B : LamX.TabB X.base X.mg C P) (hco : X.env.code = .ref C)
    (inT : (P, X.env.qual ++ "<lambda>") ∈ T) (one : ∀ p ∈ T, p.1 = P → p.2 = X.env.qual ++ "<lambda>") (nd : defaultsOf params X.env = ([], [])) (nf : ∀ y ∈ scope.names, y.2 ≠ .free) :
    PE X (.Lambda params body scope pos) (tMk T ⟨params, body, scope, X.env.qual ++ "<lambda>", ix⟩) :=
  ⟨fun pins s σ H Q I h => mk_lam ix I B hco inT one h.1 nd nf fun f c' H1 s' J eN T1 fr hc => ⟨.ref f, _, J, rfl, h.2 H1 f c' eN T1 fr hc⟩⟩
/-- a known object is kept by the def too -/
theorem S.know {K : PySem.W.Frag} {T : Tb} {F G H : Hp} {σ : L2.St} {δ : De} (s : S (K, T) F σ G H δ) (hT : T.2 = true) {p : Addr} {o : HO} (h : H p = some o) (nl : ∀ xs, o ≠ .lst xs) (nt : ∀ ps, o ≠ .tbl ps) : S (K, T) F σ (upd G p o) H δ := by
  have sg : Same G (upd G p o) := fun b x e => by
    by_cases hb : b = p
    · subst hb; rw [upd_same, ← h]; exact s.sub _ _ e
    · rw [upd_ne hb]; exact e
  refine ⟨fun b x e => ?_, s.frm, fun b x e => ?_, s.len, fun i d e => ?_, fun i xs e => ?_, s.inj, s.tab, fun x hx => ⟨(s.tnf x hx).1, ?_⟩, fun b ps e => ?_, s.ntf, s.lw⟩
  · by_cases hb : b = p
    · subst hb; rw [upd_same] at e; rw [← e]; exact h
    · rw [upd_ne hb] at e; exact s.sub _ _ e
  · have nb : b ≠ p := fun z => by
      subst z
      obtain ⟨xs, q⟩ := s.lw hT b x e
      have := s.frm _ _ e
      rw [h] at this; cases this
      exact nl xs q
    rw [upd_ne nb]; exact s.dis _ _ e
  · obtain ⟨v, h1, h2⟩ := s.val i d e
    exact ⟨v, h1, h2.mono sg⟩
  · obtain ⟨q, vs, h1, h2, h3, h4, h5⟩ := s.own i xs e
    have nb : q ≠ p := fun z => by subst z; rw [h] at h2; cases h2; exact nl vs rfl
    exact ⟨q, vs, h1, h2, h3.mono sg, by rw [upd_ne nb]; exact h4, h5⟩
  · obtain ⟨ps, hp⟩ := s.tab_at hx
    have nb : x.1 ≠ p := fun z => by rw [z, h] at hp; cases hp; exact nt ps rfl
    rw [upd_ne nb]; exact (s.tnf x hx).2
  · by_cases hb : b = p
    · subst hb; rw [upd_same] at e; cases e; exact nt ps rfl
    · rw [upd_ne hb] at e; exact s.ntg b ps e
section
variable {c : SC}
/-- lambda: e, kept -/
theorem fe_lam (ix : Nat) {C Pt : Addr} {params : Arguments} {body : Expr} {scope : Scope} {pos : Pos} (L : LamD c C Pt) (nd : ∀ env : Env, defaultsOf params env = ([], []) := by intro _; rfl) (nf : scope.names.all (fun y => !decide (y.2 = .free)) = true := by rfl) :
    FE c (.Lambda params body scope pos) (pureM (.fn ⟨params, body, scope, c.qual ++ "<lambda>", ix⟩)) := by
  have nf' : ∀ y ∈ scope.names, y.2 ≠ .free := fun y hy => by simpa using List.all_eq_true.mp nf y hy
  refine ⟨tMk c.T.1 ⟨params, body, scope, c.qual ++ "<lambda>", ix⟩, fun X h => ?_, fun F σ G H δ r s e Q p => ?_⟩
  · obtain ⟨h1, h2⟩ := h.code.resolve_left (by rw [L.code]; simp)
    have q := pe_mk ix (X := X) (T := c.T.1) (C := C) (P := Pt) (params := params) (body := body) (scope := scope) (pos := pos) (by rw [h.base, h.mg]; exact L.tb) (by rw [h1]; exact L.code) (by rw [h2]; exact L.T)
      (fun x hx hp => by rw [h2]; exact L.one x hx hp) (nd _) nf'
    rw [h2] at q
    exact q
  · cases e
    refine ⟨s.tab, fun H1 f c' eN T1 fr hc => ?_⟩
    have s1 := (s.extN eN T1).know L.law hc (fun xs z => by cases z) (fun ps z => by cases z)
    have s2 := s1.new (o := LamO ⟨params, body, scope, c.qual ++ "<lambda>", ix⟩ f c') fr
    have g : Same G (upd (upd G c' (LamX.CodeO c' (c.qual ++ "<lambda>"))) f (LamO ⟨params, body, scope, c.qual ++ "<lambda>", ix⟩ f c')) := fun b o e => by
      have e1 := (s.extN eN T1).sub _ _ e
      have nb : b ≠ f := ne_of_none e1 fr
      rw [upd_ne nb]
      by_cases hb : b = c'
      · subst hb; rw [upd_same, ← hc]; exact e1
      · rw [upd_ne hb]; exact e
    refine p _ _ _ s2 g (.fn (c' := c') upd_same ?_)
    have nb : c' ≠ f := ne_of_none hc fr
    rw [upd_ne nb, upd_same]
end
end FL

set_option Elab.async false
set_option linter.all false
set_option maxRecDepth 100000
set_option maxHeartbeats 2000000
/-! FL14: the call of a kept lambda by the def that tells. -/
namespace FL
open PySem PySem.Spec PyProof.Rows L2
section
variable {X : Cx} {pins : List (Addr × Obj)} {σ : L2.St} {H : Hp} {s : Shared}
/-- a(), in the def that got a kept lambda -/
theorem pe_actK {CXg : CXT} {Eg : XK} {Ng : List Str} {qg : Str} {sg : Scope} {g f c' : Addr} {cdg : Value} {L : Lam} {k i : Nat} {a : Str} {pn : List (Addr × Obj)} {xe : Value → Shared → Prop} {W : WX} {E : XK} {tb : TE} {p1 p2 : Pos}
    (I : Inv X pins σ H s) (hq : L.q = X.env.qual ++ "<lambda>") (hL : LamX.LamS X.env.scope L.scope) (nf : ∀ y ∈ L.scope.names, y.2 ≠ .free)
    (hbind : ∀ pm cv ctv : Value, bindArgs (PySem.W.kla_fn "<lambda>" L.q L.params L.body L.scope [] pm cv ctv) ⟨[], []⟩ = pure [])
    (tk : Takes ((cxOf CXg X.prog X.w X.K X.mg X.base Ng qg sg g cdg X.A X.stack s H Eg).tr pn xe) W) (hW : ∀ cls d σ' H', E cls d H' → W cls d σ' H') (hr : Room (k + 1) (X.A.deeper (envOfC qg sg s.heap.objs.size g cdg)))
    (hbody : ∀ (A : Around) (outer : List Env) (s : Shared) (H : Hp), Room k (A.deeper (LamX.lamEnv X L.scope s.heap.objs.size f c')) → PE (LamX.lamCx X A outer s H E L.scope f c') L.body tb)
    (hN : Ng[i]? = some a) (hv : Vis sg a) (hd : (a == ("__debug__" : Str)) = false := by decide) (hcd : (a == ("__classdict__" : Str)) = false := by decide) :
    PE ((cxOf CXg X.prog X.w X.K X.mg X.base Ng qg sg g cdg X.A X.stack s H Eg).tr pn xe) (.Call (.Name a p1) [] [] p2)
      (fun σZ HZ Q => σZ[i]? = some (some (.ref f)) ∧ HZ c' = some (LamX.CodeO c' L.q) ∧ HZ f = some (LamO L f c') ∧ tb σ HZ Q) := by
  have cl0 : cloFrom X.env.cells L.scope.names [] = [] := clo_nil nf
  refine ⟨fun pinsZ sZ σZ HZ Q IZ ⟨hs, hc, hf, ht⟩ => ?_⟩
  apply wpAny_Call_Name_kw
  refine thn ((pe_var (pos := p1) (i := i) hN hv hd hcd).run pinsZ sZ σZ HZ (fun v H1 => v = .ref f ∧ H1 = HZ) IZ ⟨.ref f, hs, rfl, rfl⟩) ?_
  rintro u s1 ⟨v, H1, J, rv, ev, eH⟩
  subst ev
  subst eH
  obtain rfl : u = Value.ref f := rv
  obtain ⟨⟨pm, ctv, hfn⟩, _, _⟩ := J.hok f _ hf
  obtain ⟨⟨oc, vs, t, k1, k2, k3⟩, _, _⟩ := J.hok c' _ hc
  have bind2 := hbind pm (.ref c') ctv
  rw [← cl0, hq] at hfn bind2
  rw [hq] at k3
  refine PySem.W.callWith_F0 ⟨_, _, _, _, hfn⟩ ?_
  have un : Un (frs X.stack) [] H H1 s.heap s1.heap := J.base
  have px : Passes (L2.CX X.prog X.w) ((cxOf CXg X.prog X.w X.K X.mg X.base Ng qg sg g cdg X.A X.stack s H Eg).tr pn xe) E := passes_call tk hW
  have run : codeAny (model X.prog X.w) (X.A.deeper (envOfC qg sg s.heap.objs.size g cdg)) (.call (.ref f) ⟨[], []⟩) (CR (L2.CX X.prog X.w) (envOfC qg sg s.heap.objs.size g cdg :: X.stack) X.prog X.w H1 s1 Q E) s1 := by
    apply PySem.W.kla_callFunE hr.depth hfn rfl hL.co hL.gen rfl ⟨c', oc, vs, t, rfl, k1, k2, k3⟩
    rw [bind2]
    apply wpAny_pure
    refine wpAny_newFunctionEnv (fun y hy => (hL.own y hy).2) (fun y hy => nomatch hy) (fun h₁ hns hsb => ⟨J.nolimit.fresh _ hsb, ?_⟩) hL.kind
    have older : ∀ b o, s1.heap.get? b = some o → h₁.get? b = some o := fun b o e => hsb.extBut b o (Nat.ne_of_lt (Heap.lt_size e)) (Heap.get?_push_of_some _ e)
    have J1 : Inv (LamX.lamCx X (X.A.deeper (envOfC qg sg s.heap.objs.size g cdg)) (envOfC qg sg s.heap.objs.size g cdg :: X.stack) s1 H1 E L.scope f c') [] σ H1 { s1 with heap := h₁, toks := s1.toks + ([] : List (Str × Value)).length } := LamX.lam_start2 I hL J.env0 hr.hd un hns older
    apply PySem.W.kla_codeExpr
    have step := (hbody _ _ s1 H1 (hr.deeper _)).run [] _ _ H1 Q J1 ht
    have step2 := wpAny_mono step (Q' := CE (envOfC qg sg s.heap.objs.size g cdg :: X.stack) X.prog X.w H1 s1 Q) (fun v s' ⟨w', H', J', rv, q⟩ => ⟨w', H', J'.os, J'.bare, J'.base, J'.hok, rv, q⟩) (fun _ _ q => q)
    exact step2
  refine wpAny_call (codeAny_mono run fun r s' q => ?_)
  match r, q with
  | .error e, q => exact px pinsZ σZ H1 s1 e s' J q
  | .ok (.ret u), q => exact J.after q
  | .ok .next, q => exact q.elim
  | .ok .brk, q => exact q.elim
  | .ok .cont, q => exact q.elim
end

/-- the def that tells, given a kept lambda; B: which lambdas are served, and their bodies' readings -/
theorem pe_toldK {X : Cx} {TT : (XK → Hp → VK → Prop) → Hp → VK → Prop} {x a : Str} {g : Addr} {k : Nat} {pg : Arguments} {bg : List Stmt} {sg : Scope} {dV kV doc pm cdv ct oc : Value} {an od : Option Addr} {osl : Array (Option Value)} {Ng : List Str} {e : Expr} {t : TA} {p pos : Pos}
    (hg : Gl X x) (hm : X.mg x = some (.ref g)) (hk : PySem.W.keepIn X.K (.ref g) = true) (lk : X.K.lookup g = some ⟨oc, od, .func (PySem.W.fnOf x x pg bg sg dV kV doc pm an cdv ct), osl⟩) (hcg : PySem.W.codeIn X.K cdv x = true)
    (hb : L2.Binds X.K (PySem.W.fnOf x x pg bg sg dV kV doc pm an cdv ct) [a] []) (Sg : FnScope Ng [a] sg) (hNg : Ng[0]? = some a) (hva : Vis sg a) (hG : LamX.GivesTo X Ng x sg g cdv bg a (X.env.qual ++ "<lambda>") TT) (hr : Room (k + 2) X.A)
    (ha : PA X [e] t) (B : Lam → (XK → TE) → Prop)
    (hB : ∀ L tb, B L tb → L.q = X.env.qual ++ "<lambda>" ∧ LamX.LamS X.env.scope L.scope ∧ (∀ y ∈ L.scope.names, y.2 ≠ .free) ∧ (∀ pm cv ctv : Value, bindArgs (PySem.W.kla_fn "<lambda>" L.q L.params L.body L.scope [] pm cv ctv) ⟨[], []⟩ = pure []) ∧
      ∀ (A : Around) (outer : List Env) (s : Shared) (H : Hp) (E : XK) (f c' : Addr), Room k (A.deeper (LamX.lamEnv X L.scope s.heap.objs.size f c')) → PE (LamX.lamCx X A outer s H E L.scope f c') L.body (tb E))
    (hdb : (x == ("__debug__" : Str)) = false := by decide) (hd : (a == ("__debug__" : Str)) = false := by decide) (hcd : (a == ("__classdict__" : Str)) = false := by decide)
    (he : starEach [e] X.env = (false, eval e X.env) :: starEach [] X.env := by rfl) (hpl : (backTo pos (starEach [] X.env)).any (·.1) = false := by rfl) :
    PE X (.Call (.Name x p) [e] [] pos) (fun σ H Q => t σ H fun vs H1 => ∃ (f c' : Addr) (L : Lam) (tb : XK → TE), B L tb ∧ vs = [.ref f] ∧ H1 f = some (LamO L f c') ∧ H1 c' = some (LamX.CodeO c' L.q) ∧ TT (fun E H' Q' => H' f = some (LamO L f c') ∧ tb E σ H' Q') H1 Q) := by
  refine ⟨fun pins s σ H Q I h => ?_⟩
  apply wpAny_Call_Name_kw
  refine ld_glob I hg hm ?_ hdb
  refine PySem.W.callWith_K (h₀ := X.base) I.ok.mod.kin hk (thn (ha.run pos pins s σ H _ I h) ?_) he hpl
  rintro us s1 ⟨vs, H1, J, r, f, c', L, tb, hbl, rfl, hf, hc, ht⟩
  refine ⟨J.kIn, ?_⟩
  obtain ⟨hq, hL, nf, hbind, hbody⟩ := hB L tb hbl
  obtain ⟨u, rfl, ru⟩ := vals1 r
  obtain rfl : u = Value.ref f := ru
  have run : codeAny (model X.prog X.w) X.A (.call (.ref g) ⟨[.ref f], []⟩) (CR C8.CX0 X.stack X.prog X.w H1 s1 Q C8.E0) s1 := by
    refine LamX.run_ofS (N := Ng) (ps := [a]) (us := [.ref f]) (vs := [.ref f]) lk hcg Sg hr J.env0 (hb s1 [.ref f] J.kIn rfl) (.cons rfl .nil) rfl fun hr2 => ?_
    obtain ⟨t2, p2, q2⟩ := hG f c' s1 H1 Q (fun E H' Q' => H' f = some (LamO L f c') ∧ tb E σ H' Q')
      (fun W pn xe E p1 p2 tk hW => by
        have := pe_actK (i := 0) (f := f) (c' := c') (p1 := p1) (p2 := p2) J hq hL nf hbind tk hW hr2 (fun A outer s H hr3 => hbody A outer s H E f c' hr3) hNg hva hd hcd
        rw [hq] at this
        exact this)
      (by rw [← hq]; exact hc) ht
    exact ⟨t2, p2.nox, q2⟩
  refine wpAny_call (codeAny_mono run fun r s' q => ?_)
  match r, q with
  | .error e, q => exact (show False from q).elim
  | .ok (.ret u), q => exact J.after q
  | .ok .next, q => exact q.elim
  | .ok .brk, q => exact q.elim
  | .ok .cont, q => exact q.elim
/-- what is known of a kept lambda where it is called -/
structure LamOk (c : SC) (k : Nat) (L : Lam) (f : M D) : Prop where
  q : L.q = c.qual ++ "<lambda>"
  sb : LamX.lamSB c.sc L.scope = true
  nf : L.scope.names.all (fun y => !decide (y.2 = .free)) = true
  bind : ∀ pm cv ctv : Value, bindArgs (PySem.W.kla_fn "<lambda>" L.q L.params L.body L.scope [] pm cv ctv) ⟨[], []⟩ = pure []
  body : ∀ E, FE (lamSC c L.scope k E) L.body f
open Classical in
noncomputable def toldK (nl : List (Nat × Str)) (lt : List (Lam × M D)) (f : M D) : M D := bindM f fun d δ => match d with
  | .fn L => match lt[L.ix]? with
    | some p => if p.1 = L then toldM nl p.2 δ else none
    | none => none
  | _ => none
theorem fe_toldK (k : Nat) {c : SC} {C Pt : Addr} {nl : List (Nat × Str)} {lt : List (Lam × M D)} {e : Expr} {f : M D} {p pos : Pos} (Td : ToldD c.P c.w c.K c.mg c.base c.cl nl) (LD : LamD c C Pt) (hl : ∀ x ∈ lt, LamOk c k x.1 x.2) (he : FE c e f)
    (hk : Nat.ble (k + 2) c.k = true := by rfl) (hg : Gb c "_law_told" := by rfl) (hs : ∀ env : Env, starEach [e] env = (false, eval e env) :: starEach [] env := by intro _; rfl) (hpl : ∀ env : Env, (backTo pos (starEach [] env)).any (·.1) = false := by intro _; rfl) :
    FE c (.Call (.Name "_law_told" p) [e] [] pos) (toldK nl lt f) := by
  obtain ⟨g, sg, Ng, pg, dV, kV, doc, pm, cdv, ct, oc, an, od, osl, p1, p2, p3, p8, h₀, hds, q1, q2, q3, q4, q5, q6, q7, q8, q9, q10⟩ := Td.ex
  obtain ⟨te, pe, se⟩ := he.ex
  let B : Lam → (XK → TE) → Prop := fun L tb => ∃ f, (L, f) ∈ lt ∧ ∀ E, (∀ X, In (lamSC c L.scope k E) X → PE X L.body (tb E)) ∧ Sp2 (lamSC c L.scope k E).κ c.cl E (Rep c.K) (tb E) f
  refine ⟨fun σ H Q => tCons te tNil σ H fun vs H1 => ∃ (f c' : Addr) (L : Lam) (tb : XK → TE), B L tb ∧ vs = [.ref f] ∧ H1 f = some (LamO L f c') ∧ H1 c' = some (LamX.CodeO c' L.q) ∧ TTm c.K (nl.map fun p => (c.cl p.1, p.2)) (fun E H' Q' => H' f = some (LamO L f c') ∧ tb E σ H' Q') H1 Q, fun X h => ?_, fun F σ G H δ r s e Q p => ?_⟩
  · obtain ⟨hc1, hc2⟩ := h.code.resolve_left (by rw [LD.code]; simp)
    have hG : LamX.GivesTo X Ng "_law_told" sg g cdv [.Try [.Return (some (.Call (.Name "what" p1) [] [] p2)) p3] (h₀ :: hds) [] [] p8] "what" (X.env.qual ++ "<lambda>") (TTm X.K (nl.map fun p => (c.cl p.1, p.2))) := gives_many (by rw [h.mg]; exact q9) q10
    rw [h.K] at hG
    exact pe_toldK (k := k) (show X.env.scope.names.lookup _ = _ by rw [h.sc]; exact hg) (by rw [h.mg]; exact q1) (by rw [h.K]; exact q2) (by rw [h.K]; exact q3) (by rw [h.K]; exact q4) (by rw [h.K]; exact q5) q6 q7 q8 hG (h.room.mono (Nat.le_of_ble_eq_true hk))
      (pa_cons (pe X h) pa_nil (hs _)) B (fun L tb ⟨f, hm, hf⟩ => by
        have lo := hl _ hm
        refine ⟨by rw [hc2]; exact lo.q, LamX.lamS_by (by rw [h.sc]; exact lo.sb), fun y hy => by simpa using List.all_eq_true.mp lo.nf y hy, lo.bind, fun A outer s H E f c' hr => (hf E).1 _ (in_lam h A outer s H f c' hr)⟩) (he := hs _) (hpl := hpl _)
  · refine se.step s e p fun G1 H1 δ1 v d s1 g1 rv e1 p1 => ?_
    cases d with
    | fn L =>
      cases rv with
      | @fn f c' L a1 a2 =>
        dsimp only at e1
        cases hi : lt[L.ix]? with
        | none => rw [hi] at e1; cases e1
        | some x =>
          rw [hi] at e1
          dsimp only at e1
          split at e1
          · rename_i ex
            obtain ⟨L0, m⟩ := x
            have ex : L0 = L := ex
            subst ex
            have hm : (L0, m) ∈ lt := List.mem_of_getElem? hi
            have lo := hl _ hm
            refine ⟨f, c', L0, fun E => Classical.choose (lo.body E).ex, ⟨m, hm, fun E => Classical.choose_spec (lo.body E).ex⟩, rfl, s1.sub _ _ a1, s1.sub _ _ a2, ?_⟩
            have s2 := s1.hide
            unfold toldM at e1
            dsimp only at e1
            cases hf : m (hideOwn δ1) with
            | none => rw [hf] at e1; cases e1
            | some rr =>
              rw [hf] at e1
              refine ⟨s1.sub _ _ a1, ?_⟩
              refine (Classical.choose_spec (lo.body (Ech c.K Q (nl.map fun p => (c.cl p.1, p.2)))).ex).2 _ σ G1 H1 _ rr s2 hf Q ?_
              cases rr with
              | ok d δ' =>
                cases e1
                exact fun G' H' v s' g' rv => p1 G' H' v (s1.after g' s'.sub s'.frm s'.dis s'.ntg s'.tab) g' rv
              | ex n =>
                dsimp only at e1
                cases hn : toldName nl n with
                | none => rw [hn] at e1; cases e1
                | some w =>
                  rw [hn] at e1
                  cases e1
                  intro G' H' g' h' f' t'
                  refine ech_of hn (fun j hj => Td.exm n j (toldName_mem hn) hj) ?_
                  exact p1 G1 H' _ (s1.after (Same.refl _) (g'.trans h') f' (fun b o q => (besides_at q).1) s1.ntg t') (Same.refl _) (.str _)
          · cases e1
    | _ => cases e1
end FL

set_option Elab.async false
set_option linter.all false
set_option maxRecDepth 100000
set_option maxHeartbeats 2000000
/-! FL15: sorted of a list or a tuple of data. -/
namespace FL
open PySem PySem.Spec PyProof.Rows L2 PySem.W
section
variable {prog : Program} {w : World} {A : Around} {Ex : Value → Shared → Prop} {s : Shared} {β : Type} {vs : List Value} {bs : List β} {enc : β → PyData} {R : Value → β → Prop}
/-- the heap with a new list of the items vs -/
def heldH (h : Heap) (vs : List Value) : Heap := (h.push (seqObj "list" #[] 0)).update h.objs.size (Obj.mapSeq (· ++ vs.toArray))
theorem heldH_size (h : Heap) (vs : List Value) : (heldH h vs).objs.size = h.objs.size + 1 := by unfold heldH; rw [Heap.size_update, size_push']
theorem collect_seq2 {l : Addr} {T : String} {o : Obj} {n : Nat} {Q : List Value → Shared → Prop} (hT : T = "list" ∨ T = "tuple") (ho : s.heap.get? l = some o) (hc : o.cls = .type T) (hd : o.data = .seq vs.toArray n) (lv : vs.length ≤ sizeLine)
    (k : Q vs { s with heap := heldH s.heap vs }) : wpAny (model prog w) A (collect (.ref l)) Q Ex s := by
  have bare : (s.heap.push { cls := .type "list", data := .seq ([] : List Value).toArray }).get? s.heap.objs.size = some { cls := .type "list", data := .seq #[] 0 } := Heap.get?_push_size _ rfl
  have full := Heap.get?_update_self (Obj.mapSeq (· ++ vs.toArray)) bare rfl
  have tail : wpAny (model prog w) A (match Value.ref s.heap.objs.size with
      | Value.ref a => do match (← load a).data with
          | Data.seq xs _ => pure xs.toList
          | _ => unsupported "internal:collect"
      | _ => unsupported "internal:collect") Q Ex { s with heap := heldH s.heap vs } := by
    apply wpAny_bind (wpAny_load full _)
    apply wpAny_pure
    show Q ((#[] : Array Value) ++ vs.toArray).toList _
    rw [show ((#[] : Array Value) ++ vs.toArray).toList = vs by simp]
    exact k
  unfold collect
  apply wpAny_bind
  apply wpAny_runValue
  apply codeAny_builtin PySem.F.entry_proto_collect
  rw [Around.under_plainId PySem.F.plain_proto_collect _]
  apply wpAny_bind
  refine wpAny_newObj_type (Q := _) ?_
  apply wpAny_pure
  refine ⟨plainId_quiet PySem.F.plain_list_iadd _, codeAny_builtin PySem.F.entry_list_iadd ?_⟩
  rw [Around.under_plainId PySem.F.plain_list_iadd _]
  have run := wpAny_extend_seq (prog := prog) (w := w) (A := A) (s := { s with heap := s.heap.push { cls := .type "list", data := .seq ([] : List Value).toArray } }) (R := fun r s' => r = .ok (.ret (.ref s.heap.objs.size)) ∧ s' = { s with heap := heldH s.heap vs })
    s.heap.objs.size l (.ref s.heap.objs.size) 0 hT bare (Heap.get?_push_of_some _ ho) hc hd ⟨rfl, rfl⟩ (by simpa using lv)
  refine wpAny_mono run (fun f s' z => ?_) (fun e s' z => nomatch z.1)
  match f, z with
  | .done g, ⟨z1, z2⟩ =>
    subst z2
    cases z1
    exact tail
  | .again c', ⟨z1, z2⟩ =>
    refine ⟨z1, codeAny_mono z2 fun r s2 ⟨y1, y2⟩ => ?_⟩
    subst y1 y2
    exact tail
theorem sorted_seq {l : Addr} {T : String} {o : Obj} {n : Nat} {Q : Value → Shared → Prop} (hT : T = "list" ∨ T = "tuple") (ho : s.heap.get? l = some o) (hc : o.cls = .type T) (hd : o.data = .seq vs.toArray n) (e : EachIs R vs bs)
    (er : EachIs (fun v b => ∃ as, Reads s.heap v (enc b) as) vs bs) (hal : AllAlike (bs.map enc)) (hk : Sortable (bs.map enc)) (hL : bs.length ≤ sizeLine) (hu : ∀ b, b ∈ bs → A.units + 2 + (enc b).depth < cLine)
    (h : ∀ (out : List Value) (h' : Heap) (a : Addr) (m : Nat), EachIs R out (bs.mergeSort (dataLe false enc)) → (∀ b u, s.heap.get? b = some u → h'.get? b = some u) → s.heap.objs.size ≤ a → h'.get? a = some (seqObj "list" out.toArray m) → Q (.ref a) { s with heap := h' }) :
    wpAny (model prog w) A (call (.builtin "sorted") [.ref l]) Q Ex s := by
  have lv : vs.length ≤ sizeLine := by rw [e.length]; exact hL
  apply Calls.call_function_entry kind_sorted plain_sorted entry_sorted (args_sorted1 _)
  unfold Builtin.«sorted»
  apply wpAny_bind (m := checkCount "sorted" 1 1 _)
  apply wpAny_pure
  refine wpAny_bind (collect_seq2 hT ho hc hd lv ?_)
  have ext : ∀ b u, s.heap.get? b = some u → (heldH s.heap vs).get? b = some u := fun b u q => by
    unfold heldH
    rw [Heap.get?_update_ne _ _ _ _ (Nat.ne_of_lt (Heap.lt_size q))]
    exact Heap.get?_push_of_some _ q
  have sz := heldH_size s.heap vs
  generalize heldH s.heap vs = h1 at ext sz ⊢
  refine wpAny_bind (wpAny_newList ?_ (by simpa using lv))
  have at1 : (h1.push (seqObj "list" vs.toArray 0)).get? h1.objs.size = some (seqObj "list" vs.toArray 0) := Heap.get?_push_size _ rfl
  have old1 : ∀ b u, s.heap.get? b = some u → b ≠ h1.objs.size ∧ (h1.push (seqObj "list" vs.toArray 0)).get? b = some u := fun b u q => by
    have q1 := ext b u q
    exact ⟨Nat.ne_of_lt (Heap.lt_size q1), Heap.get?_push_of_some _ q1⟩
  have er' : EachIs (fun v b => ∃ as, Reads (sortingHeap (h1.push (seqObj "list" vs.toArray 0)) h1.objs.size vs) v (enc b) as) vs bs :=
    er.mono fun v b ⟨as, r⟩ => ⟨as, PyProof.Rows.Reads.keeps (fun b u q => sortingHeap_old (old1 b u q).1 (old1 b u q).2) r⟩
  refine wpAny_bind (wpAny_holding (wpAny_call_entry slot_list_sort ⟨_, at1, rfl⟩ entry_list_sort (list_sort_vals (κ := dataKind (sortingHeap (h1.push (seqObj "list" vs.toArray 0)) h1.objs.size vs) (bs.map enc)) at1
    (SortsAt.data (s := { s with heap := sortingHeap (h1.push (seqObj "list" vs.toArray 0)) h1.objs.size vs }) (each_map (R := fun v d => ∃ as, Reads (sortingHeap (h1.push (seqObj "list" vs.toArray 0)) h1.objs.size vs) v d as) enc er') hal hk (bound_map hu)) lv ⟨_, rfl, ?_⟩) (args_list_sort _)))
  refine wpAny_pure ⟨_, rfl, ?_⟩
  obtain ⟨m, hm⟩ : ∃ m, (sortedHeap (h1.push (seqObj "list" vs.toArray 0)) h1.objs.size vs (sortVals (dataKind (sortingHeap (h1.push (seqObj "list" vs.toArray 0)) h1.objs.size vs) (bs.map enc)) false vs vs).toArray).get? h1.objs.size = some (seqObj "list" (sortVals (dataKind (sortingHeap (h1.push (seqObj "list" vs.toArray 0)) h1.objs.size vs) (bs.map enc)) false vs vs).toArray m) := sortedHeap_at at1
  refine h _ _ h1.objs.size m (sortVals_data false e er' hal) (fun b u q => ?_) (by omega) hm
  rw [sortedHeap_old (old1 b u q).1 (Heap.lt_size (old1 b u q).2)]
  exact (old1 b u q).2
end
end FL

set_option Elab.async false
set_option linter.all false
set_option maxRecDepth 100000
set_option maxHeartbeats 2000000
/-! FL16: sorted, by values; gcd. -/
namespace FL
open PySem PySem.Spec PyProof.Rows L2
def pyOf (d : D) : PyData := (toPy d).getD .none
def rSD (K : PySem.W.Frag) : List V → Hp → VK → Prop := fun vs H Q => ∃ (a : Addr) (ps : List (V × D)), vs = [.ref a] ∧ (SqL K H a (ps.map (·.1)) ∨ SqT K H a (ps.map (·.1))) ∧ ps.length ≤ sizeLine ∧ (∀ p ∈ ps, Dp K H p.1 (pyOf p.2)) ∧ PySem.W.AllAlike (ps.map fun p => pyOf p.2) ∧ PySem.W.Sortable (ps.map fun p => pyOf p.2) ∧
  (∀ p ∈ ps, (pyOf p.2).depth ≤ 60) ∧ ∀ l, H l = none → Q (.ref l) (upd H l (.lst ((ps.mergeSort (PySem.W.dataLe false fun p => pyOf p.2)).map (·.1))))
theorem each_of_vals : ∀ {ps : List (V × D)} {us : List Value}, Vals (ps.map (·.1)) us → PySem.W.EachIs (fun u p => RelV p.1 u) us ps
  | [], us, r => by cases r; exact .nil
  | p :: ps, us, r => by
    cases r with
    | cons h t => exact .cons h (each_of_vals t)
theorem vals_of_each : ∀ {ps : List (V × D)} {us : List Value}, PySem.W.EachIs (fun u p => RelV p.1 u) us ps → Vals (ps.map (·.1)) us
  | _, _, .nil => .nil
  | _, _, .cons h t => .cons h (vals_of_each t)
theorem each_reads {h : Heap} : ∀ {ps : List (V × D)} {us : List Value}, PySem.W.EachIs (fun u p => RelV p.1 u) us ps → (∀ p ∈ ps, ∀ u, RelV p.1 u → ∃ as, Reads h u (pyOf p.2) as) → PySem.W.EachIs (fun u p => ∃ as, Reads h u (pyOf p.2) as) us ps
  | _, _, .nil, _ => .nil
  | _, _, .cons h t, k => .cons (k _ (by simp) _ h) (each_reads t fun p hp => k p (by simp [hp]))
theorem cr_sortedD {X : Cx} (hu : X.A.units + 64 < cLine) : CallR X (.builtin "sorted") (rSD X.K) := by
  intro pins s σ H vs us Q I r h
  obtain ⟨a, ps, rfl, hs, hz, hdp, hal, hk, hdep, q⟩ := h
  obtain ⟨u, rfl, ru⟩ := vals1 r
  obtain rfl : u = Value.ref a := ru
  obtain ⟨its, T, o, n, hT, rv, ho, hc, hd⟩ : ∃ (its : List Value) (T : String) (o : Obj) (n : Nat), (T = "list" ∨ T = "tuple") ∧ Vals (ps.map (·.1)) its ∧ s.heap.get? a = some o ∧ o.cls = .type T ∧ o.data = .seq its.toArray n := by
    rcases hs with hs | hs
    · obtain ⟨its, rv, hl, _⟩ := I.list hs
      obtain ⟨o, ho, hc, n, hd⟩ := hl.isList
      exact ⟨its, "list", o, n, .inl rfl, rv, ho, hc, hd⟩
    · obtain ⟨its, rv, p, _⟩ := I.tuple hs
      obtain ⟨o, ho, hc, n, hd⟩ := p
      exact ⟨its, "tuple", o, n, .inr rfl, rv, ho, hc, hd⟩
  have e := each_of_vals rv
  refine sorted_seq (bs := ps) (enc := fun p => pyOf p.2) (R := fun u p => RelV p.1 u) hT ho hc hd e (each_reads e fun p hp u ru => Dp.reads I _ _ _ (hdp p hp) ru) hal hk hz (fun p hp => ?_) fun out h' d m eo kp hd' at' => ?_
  · have := hdep p hp
    omega
  · refine ⟨.ref d, _, I.laid (t' := s.toks) (o := .lst ((ps.mergeSort (PySem.W.dataLe false fun p => pyOf p.2)).map (·.1))) kp hd' ⟨?_, out, m, vals_of_each eo, at'⟩, rfl, q d (I.hok.fresh hd')⟩
    rw [List.length_map, List.length_mergeSort]
    exact hz
def okSort (ds : List D) : Bool := decide (ds.length ≤ 1000000) && ds.all (fun d => (toPy d).isSome && decide ((pyOf d).depth ≤ 60)) && ds.all (fun x => ds.all fun y => PySem.W.alike (pyOf x) (pyOf y)) &&
  (ds.all (fun d => match pyOf d with | .tuple (_ :: _) => true | _ => false) || ds.all (fun d => match pyOf d with | .none => false | .tuple _ => false | _ => true))
def sortL (ds : List D) : List D := ds.mergeSort (PySem.W.dataLe false pyOf)
def insL (d : D) : List D → List D
  | [] => [d]
  | x :: r => if PySem.W.dataLe false pyOf d x then d :: x :: r else x :: insL d r
def isortL : List D → List D
  | [] => []
  | x :: r => insL x (isortL r)
theorem insL_at {a : D} : ∀ {l₁ l₂ : List D}, (∀ b, b ∈ l₁ → (!PySem.W.dataLe false pyOf a b) = true) → (∀ c, c ∈ l₂ → PySem.W.dataLe false pyOf a c = true) → insL a (l₁ ++ l₂) = l₁ ++ a :: l₂
  | [], [], _, _ => rfl
  | [], c :: l₂, _, h => by
    show (if PySem.W.dataLe false pyOf a c then _ else _) = _
    rw [if_pos (h c (by simp))]; rfl
  | b :: l₁, l₂, h, h2 => by
    have hb := h b (by simp)
    rw [Bool.not_eq_true'] at hb
    show (if PySem.W.dataLe false pyOf a b then _ else b :: insL a (l₁ ++ l₂)) = _
    rw [if_neg (by rw [hb]; exact Bool.false_ne_true), insL_at (fun c hc => h c (by simp [hc])) h2]; rfl
theorem sortL_eq : ∀ ds : List D, sortL ds = isortL ds
  | [] => by unfold sortL; simp [isortL]
  | a :: r => by
    have tt := PySem.W.sortLe_total (α := D) (PyProof.Rows.listOrd PyProof.Rows.itemOrd) false (fun b => PySem.W.keyToks (pyOf b))
    have tr : ∀ a b c : D, PySem.W.dataLe false pyOf a b = true → PySem.W.dataLe false pyOf b c = true → PySem.W.dataLe false pyOf a c = true := tt.trans
    have to : ∀ a b : D, (PySem.W.dataLe false pyOf a b || PySem.W.dataLe false pyOf b a) = true := fun a b => by
      rcases tt.total a b with h | h
      · have h : PySem.W.dataLe false pyOf a b = true := h
        rw [h]; rfl
      · have h : PySem.W.dataLe false pyOf b a = true := h
        rw [h, Bool.or_true]
    obtain ⟨l₁, l₂, h1, h2, h3⟩ := List.mergeSort_cons tr to a r
    have pw := List.pairwise_mergeSort tr to (a :: r)
    rw [h1] at pw
    show (a :: r).mergeSort _ = insL a (isortL r)
    rw [← sortL_eq r, h1]
    show _ = insL a (r.mergeSort _)
    rw [h2, insL_at h3]
    intro c hc
    exact (List.pairwise_cons.mp (List.pairwise_append.mp pw).2.1).1 c hc
def sortedD : List D → Option D
  | [.lst ds] => if okSort ds then some (.lst (isortL ds)) else none
  | [.tup ds] => if okSort ds then some (.lst (isortL ds)) else none
  | _ => none
theorem RepL.dpv {K : PySem.W.Frag} {G : Hp} : ∀ {vs : List V} {ds : List D}, RepL K G vs ds → (∀ d ∈ ds, (toPy d).isSome = true) → ∀ p ∈ vs.zip ds, Dp K G p.1 (pyOf p.2) ∧ Rep K G p.1 p.2
  | _, _, .nil, _, p, hp => by cases hp
  | _, _, .cons (v := v) (d := d) h1 h2, h, p, hp => by
    rw [List.zip_cons_cons] at hp
    rcases List.mem_cons.mp hp with e | hp
    · subst e
      refine ⟨?_, h1⟩
      have q := h d (by simp)
      unfold pyOf
      cases e : toPy d with
      | none => rw [e] at q; cases q
      | some x => exact Rep.dp h1 e
    · exact RepL.dpv h2 (fun d hd => h d (by simp [hd])) p hp
theorem repL_of {K : PySem.W.Frag} {G : Hp} : ∀ {ps : List (V × D)}, (∀ p ∈ ps, Rep K G p.1 p.2) → RepL K G (ps.map (·.1)) (ps.map (·.2))
  | [], _ => .nil
  | p :: ps, h => .cons (h p (by simp)) (repL_of fun q hq => h q (by simp [hq]))
theorem sort_run {K : PySem.W.Frag} {T : Tb} {F G H : Hp} {σ : L2.St} {δ : De} {a : Addr} {xs : List V} {ds : List D} {Q : VK} (s : S (K, T) F σ G H δ) (hs : SqL K H a xs ∨ SqT K H a xs) (r : RepL K G xs ds) (ok : okSort ds = true)
    (q : ∀ G' H' w, S (K, T) F σ G' H' δ → Same G G' → Rep K G' w (.lst (sortL ds)) → Q w H') : rSD K [.ref a] H Q := by
  unfold okSort at ok
  simp only [Bool.and_eq_true, decide_eq_true_eq, List.all_eq_true, Bool.or_eq_true] at ok
  obtain ⟨⟨⟨k1, k2⟩, k3⟩, k4⟩ := ok
  have hl := r.length
  have e1 : (xs.zip ds).map (·.1) = xs := List.map_fst_zip (by omega)
  have e2 : (xs.zip ds).map (·.2) = ds := List.map_snd_zip (by omega)
  have e3 : (xs.zip ds).map (fun p => pyOf p.2) = ds.map pyOf := by
    conv => rhs; rw [← e2]
    rw [List.map_map]; rfl
  have hd := RepL.dpv r fun d hd => (k2 d hd).1
  refine ⟨a, xs.zip ds, rfl, by rw [e1]; exact hs, ?_, fun p hp => dp_mono s.sub (hd p hp).1, ?_, ?_, fun p hp => ?_, fun l hl => ?_⟩
  · rw [List.length_zip, hl, Nat.min_self, sizeLine_eq]; omega
  · rw [e3]
    intro d hd d' hd'
    obtain ⟨x, hx, rfl⟩ := List.mem_map.mp hd
    obtain ⟨y, hy, rfl⟩ := List.mem_map.mp hd'
    exact k3 x hx y hy
  · rw [e3]
    rcases k4 with k4 | k4
    · refine .inl fun d hd => ?_
      obtain ⟨x, hx, rfl⟩ := List.mem_map.mp hd
      have := k4 x hx
      split at this
      · rename_i y r e; exact ⟨y, r, e⟩
      · cases this
    · refine .inr fun d hd => ?_
      obtain ⟨x, hx, rfl⟩ := List.mem_map.mp hd
      have := k4 x hx
      split at this
      · cases this
      · cases this
      · rename_i e1 e2; exact ⟨e1, fun xs e => e2 xs e⟩
  · exact (k2 p.2 (by rw [← e2]; exact List.mem_map.mpr ⟨p, hp, rfl⟩)).2
  · refine q _ _ _ (s.new hl) (same_upd (s.sub.free hl)) (.lst upd_same ?_)
    have m := repL_of (ps := (xs.zip ds).mergeSort (PySem.W.dataLe false fun p => pyOf p.2)) (K := K) (G := G) fun p hp => (hd p ((List.mergeSort_perm _ _).mem_iff.mp hp)).2
    have e4 : ((xs.zip ds).mergeSort (PySem.W.dataLe false fun p => pyOf p.2)).map (·.2) = sortL ds := by
      unfold sortL
      conv => rhs; rw [← e2]
      exact List.map_mergeSort (f := Prod.snd) (r := PySem.W.dataLe false fun p : V × D => pyOf p.2) (s := PySem.W.dataLe false pyOf) fun a _ b _ => rfl
    rw [e4] at m
    exact m.mono (same_upd (s.sub.free hl))
theorem cb_sorted {K : PySem.W.Frag} : Cb K (rSD K) sortedD := by
  refine ⟨fun T F σ G H δ vs ds d s rv e Q q => ?_⟩
  unfold sortedD at e
  split at e
  · split at e
    · rename_i ok
      cases e
      cases rv with
      | cons h t =>
        cases t
        cases h with
        | lst h1 h2 => exact sort_run s (.inl (.of (s.sub _ _ h1))) h2 ok (by rw [sortL_eq]; exact q)
    · cases e
  · split at e
    · rename_i ok
      cases e
      cases rv with
      | cons h t =>
        cases t
        cases h with
        | tup h1 h2 => exact sort_run s (.inr (seqT s.sub h1)) h2 ok (by rw [sortL_eq]; exact q)
    · cases e
  · cases e
theorem fe_sorted {c : SC} {p pos : Pos} {e : Expr} {f : M (List D)} (hm : c.mg "sorted" = none) (ha : FA c [e] f) (hg : Gb c "sorted" := by rfl) (he : ∀ env : Env, starEach [e] env = (false, eval e env) :: starEach [] env := by intro _; rfl) :
    FE c (.Call (.Name "sorted" p) [e] [] pos) (callB sortedD f) :=
  fe_callB hm (fun X h => by have := cr_sortedD (X := X) h.units; rwa [h.K] at this) cb_sorted ha (by decide +kernel) hg (he := he)
/-! ### gcd -/
def gcdD : List D → Option D
  | [.int a, .int b] => some (.int ((Nat.gcd a.natAbs b.natAbs : Nat) : Int))
  | _ => none
theorem cb_gcd {K : PySem.W.Frag} : Cb K rGcd gcdD := by
  refine ⟨fun T F σ G H δ vs ds d s rv e Q q => ?_⟩
  unfold gcdD at e
  split at e
  · cases e
    cases rv with
    | cons h t =>
      cases t with
      | cons h2 t2 =>
        cases t2
        cases h
        cases h2
        exact ⟨_, _, rfl, q _ _ _ s (Same.refl _) (.int _)⟩
  · cases e
theorem fe_gcd {c : SC} {p pos : Pos} {e : Expr} {es : List Expr} {f : M (List D)} {x : Str} (hm : c.mg x = some (.builtin "math.gcd")) (ha : FA c (e :: es) f) (hg : Gb c x := by rfl) (hdb : (x == ("__debug__" : Str)) = false := by decide)
    (he : ∀ env : Env, starEach (e :: es) env = (false, eval e env) :: starEach es env := by intro _; rfl) (hpl : ∀ env : Env, (backTo pos (starEach es env)).any (·.1) = false := by intro _; rfl) : FE c (.Call (.Name x p) (e :: es) [] pos) (callB gcdD f) := by
  obtain ⟨t, pa, sa⟩ := ha.ex
  exact ⟨_, fun X h => pe_callBfun cr_gcd (show X.env.scope.names.lookup x = _ by rw [h.sc]; exact hg) (by rw [h.mg]; exact hm) (pa X h) hdb (he _) (hpl _), Sp2.cb cb_gcd sa⟩
end FL

set_option Elab.async false
set_option linter.all false
set_option maxRecDepth 100000
set_option maxHeartbeats 2000000
/-! FL17: defaults, while, insert. -/
namespace FL
open PySem PySem.Spec PyProof.Rows L2
/-- a def called with its last parameters left out -/
structure FnDf (P : Program) (w : World) (K : PySem.W.Frag) (mg : Str → Option Value) (base : Heap) (cl : Nat → Addr) (T : List (Addr × Str)) (k : Nat) (x : Str) (f : DF) (dvs : List D) : Prop where
  ex : ∃ (a : Addr) (fd : FuncData) (ps : List Str) (ds : List Value) (vs : List V), mg x = some (.ref a) ∧ PySem.W.keepIn K (.ref a) = true ∧ Binds K fd ps ds ∧ Vals vs ds ∧ (∀ G, RepL K G vs dvs) ∧ FnOk P w K mg base (L2.CX P w) k a fd ps (spD K cl T f)
theorem fe_callDf {c : SC} {k : Nat} {x : Str} {f : DF} {dvs : List D} {p pos : Pos} {e : Expr} {es : List Expr} {fa : M (List D)} (F : FnDf c.P c.w c.K c.mg c.base c.cl c.T.1 k x f dvs) (ha : FA c (e :: es) fa) (hk : Nat.ble k c.k = true := by rfl)
    (hg : Gb c x := by rfl) (hdb : (x == ("__debug__" : Str)) = false := by decide) (he : ∀ env : Env, starEach (e :: es) env = (false, eval e env) :: starEach es env := by intro _; rfl) (hpl : ∀ env : Env, (backTo pos (starEach es env)).any (·.1) = false := by intro _; rfl) :
    FE c (.Call (.Name x p) (e :: es) [] pos) (callM (fun l => f (l ++ dvs)) fa) := by
  obtain ⟨t, pa, sa⟩ := ha.ex
  obtain ⟨a, fd, ps, ds', vs', h1, h2, h3, hv, hr, h4⟩ := F.ex
  refine ⟨tCallSD (spD c.K c.cl c.T.1 f) vs' (WE fun cls d _ H => c.E cls d H) t, fun X h => ?_, ?_⟩
  · have h4' : FnOk X.prog X.w X.K X.mg X.base (L2.CX X.prog X.w) k a fd ps (spD c.K c.cl c.T.1 f) := by rw [h.P, h.w, h.K, h.mg, h.base]; exact h4
    exact pe_callSD h4' (h.room.mono (Nat.le_of_ble_eq_true hk)) (show X.env.scope.names.lookup x = _ by rw [h.sc]; exact hg) (by rw [h.mg]; exact h1) (by rw [h.K]; exact h2) (by rw [h.K]; exact h3) hv h.pa (pa X h) hdb (he _) (hpl _)
  · intro F σ G H δ r s e Q p
    refine sa.step s e p fun G1 H1 δ1 vs ds s1 g1 rx e1 p1 => ?_
    unfold resM at e1
    dsimp only at e1
    cases h : f (ds ++ dvs) with
    | none => rw [h] at e1; cases e1
    | some rr =>
      rw [h] at e1
      refine ⟨besides G1 H1, G1, ds ++ dvs, rr, s1.sub, fun b o e => (besides_at e).2.1, fun b o e => (besides_at e).1, s1.ntg, fun b ps e => (besides_at e).2.2 ps rfl, besides_tab s1.tab, rx.append (hr G1), h, ?_⟩
      cases rr with
      | ret d =>
        cases e1
        exact fun G' H' v g' h' f' d' n' t' rv => p1 G' H' v (s1.after g' h' f' d' n' t') g' rv
      | ex k =>
        cases e1
        exact fun G' H' g' h' f' t' => p1 G' H' g' h' (fun b o e => f' _ _ (besides_of (s1.frm _ _ e) (s1.dis _ _ e) fun ps z => s1.ntf b ps (by rw [e, z]))) t'
/-! ### while -/
def whileF (t : M Bool) (f : Fo) : Nat → Fo
  | 0 => fun _ => none
  | n + 1 => fun δ => match t δ with
    | none => none
    | some (.ex k) => some (.ex k)
    | some (.ok false δ1) => some (.nx δ1)
    | some (.ok true δ1) => match f δ1 with
      | none => none
      | some (.nx δ2) => whileF t f n δ2
      | some (.ct δ2) => whileF t f n δ2
      | some (.bk δ2) => some (.nx δ2)
      | some (.rt d) => some (.rt d)
      | some (.ex k) => some (.ex k)
theorem fs_while (n : Nat) {c : SC} {e : Expr} {body : List Stmt} {t : M Bool} {f : Fo} {pos : Pos} (hc : FT c e t) (hb : FS c body f) (hs0 : c.st "" = true := by rfl) : FS1 c (.While e body [] pos) (whileF t f n) := by
  obtain ⟨tt, pt, st⟩ := hc.ex
  obtain ⟨tb, pb, sb⟩ := hb.ex
  refine ⟨tWhile tt tb, fun X h => ps_while (h.po hs0) (pt X h) (pb X h), fun F σ G H δ o s e Dn p => ?_⟩
  refine ⟨fun m σ' H' => ∃ G' δ', Same G G' ∧ S c.κ F σ' G' H' δ' ∧ whileF t f m δ' = some o, ⟨n, G, δ, Same.refl _, s, e⟩, ?_⟩
  rintro m σ1 H1 ⟨G1, δ1, g1, s1, e1⟩
  cases m with
  | zero => cases e1
  | succ m =>
    rw [whileF] at e1
    dsimp only at e1
    cases ht : t δ1 with
    | none => rw [ht] at e1; cases e1
    | some r =>
      rw [ht] at e1
      refine st F σ1 G1 H1 δ1 r s1 ht _ ?_
      cases r with
      | ex k => cases e1; exact fun G' H' g' => p G' H' (g1.trans g')
      | ok b δ2 =>
        intro G2 H2 v s2 g2 rv
        have ev : v = b := rv
        subst ev
        cases v with
        | false =>
          rw [if_neg Bool.false_ne_true]
          cases e1
          exact p σ1 G2 H2 s2 (g1.trans g2)
        | true =>
          rw [if_pos rfl]
          dsimp only at e1
          refine ⟨fun σ' H' => ∃ G' δ', Same G G' ∧ S c.κ F σ' G' H' δ' ∧ whileF t f m δ' = some o, fun σ' H' ⟨G', δ', z1, z2, z3⟩ => ⟨m, Nat.lt_succ_self _, G', δ', z1, z2, z3⟩, ?_⟩
          cases hf : f δ2 with
          | none => rw [hf] at e1; cases e1
          | some o1 =>
            rw [hf] at e1
            refine sb F σ1 G2 H2 δ2 o1 s2 hf _ ?_
            have g12 := g1.trans g2
            cases o1 with
            | nx δ4 => exact fun σ' G' H' s' g' => ⟨G', δ4, g12.trans g', s', e1⟩
            | ct δ4 => exact fun σ' G' H' s' g' => ⟨G', δ4, g12.trans g', s', e1⟩
            | bk δ4 => cases e1; exact fun σ' G' H' s' g' => p σ' G' H' s' (g12.trans g')
            | rt d => cases e1; exact fun σ' G' H' δ' v s' g' rv => p σ' G' H' δ' v s' (g12.trans g') rv
            | ex k => cases e1; exact fun G' H' g' => p G' H' (g12.trans g')
/-! ### x.insert(k, e) -/
def insS (i : Nat) (g f : M D) : Fo := fun δ => match ownAt δ i with
  | none => none
  | some _ => thenS g (fun k => thenS f fun d δ => match k, ownAt δ i with
    | .int k, some xs => if 0 ≤ k ∧ k < 1000000 ∧ xs.length < 1000000 then some (.nx (δ.set i (.own (xs.take k.toNat ++ [d] ++ xs.drop k.toNat)))) else none
    | _, _ => none) δ
def rIns : V → List V → Hp → VK → Prop := fun z us H Q => ∃ (a : Addr) (ys : List V) (k : Int) (u : V), z = .ref a ∧ us = [.int k, u] ∧ H a = some (.lst ys) ∧ ys.length < sizeLine ∧
  0 ≤ k ∧ k < 2 ^ 63 ∧ Q .non (upd H a (.lst (ys.take k.toNat ++ [u] ++ ys.drop k.toNat)))
theorem fs_insert (i : Nat) {c : SC} {x : Str} {k e : Expr} {g f : M D} {p1 p2 p3 pos : Pos} (hk : FE c k g) (he : FE c e f) (hN : c.N[i]? = some x := by rfl) (hv : Vis c.sc x := by first | exact Or.inl rfl | exact Or.inr (Or.inl rfl) | exact Or.inr (Or.inr rfl))
    (hd : (x == ("__debug__" : Str)) = false := by decide) (hcd : (x == ("__classdict__" : Str)) = false := by decide)
    (h1 : ∀ env : Env, starEach [k, e] env = (false, eval k env) :: starEach [e] env := by intro _; rfl) (h2 : ∀ env : Env, starEach [e] env = (false, eval e env) :: starEach [] env := by intro _; rfl) (hpl : ∀ env : Env, (backTo p3 (starEach [e] env)).any (·.1) = false := by intro _; rfl)
    (hb : ∀ env : Env, attributeBase (.Name x p1) "insert" env (eval (.Name x p1) env) = eval (.Name x p1) env := by intro _; rfl)
    (hfew : ∀ env : Env, ((backTo p3 (starEach [k, e] env)).all (fun x => !x.1) && (backToKw p3 (keywordEach [] env)).all (fun x => x.1.isSome) && decide (([k, e] : List Expr).length + ([] : List Keyword).length + (if ([] : List Keyword).isEmpty then 0 else 1) < 30)) = true := by intro _; rfl)
    (hl : (p2.endLine == p3.line) = true := by rfl)
    (hs : ∀ env : Env, env.scope = c.sc → swapsWith (.Call (.Attribute (.Name x p1) "insert" p2) [k, e] [] p3) none pos.line env = pure false := by intro _ _; rfl) :
    FS1 c (.Expr (.Call (.Attribute (.Name x p1) "insert" p2) [k, e] [] p3) pos) (insS i g f) := by
  obtain ⟨tk, pk, sk⟩ := hk.ex
  obtain ⟨t, pa, sa⟩ := he.ex
  refine ⟨tDrop (tBM c.K "list" rIns (tVar i) (tCons tk (tCons t tNil))), fun X h => ?_, fun F σ G H δ o s e Dn p => ?_⟩
  · have q := pe_bm (X := X) (r := rIns) PySem.F.plainAttrs_list PySem.F.slot_list_insert PySem.F.type_list_insert mt_insert (pe_var (i := i) (x := x) (pos := p1) (by rw [h.N]; exact hN) (by rw [h.sc]; exact hv) hd hcd) (pa_cons (pk X h) (pa_cons (pa X h) pa_nil (h2 _)) (h1 _)) (hb _) (hfew _) hl (h1 _) (hpl _)
    rw [h.K] at q
    exact ps_expr q (hs _ h.sc)
  · unfold insS at e
    cases h0 : ownAt δ i with
    | none => rw [h0] at e; cases e
    | some xs0 =>
      rw [h0] at e
      dsimp only at e
      obtain ⟨q, vs, e1, e2, e3, e4, e5⟩ := s.own i xs0 (ownAt_some h0)
      refine ⟨_, e1, .inl ⟨rfl, _, .inl (.inl e2)⟩, ?_⟩
      refine sk.stepS s e p fun G1 H1 δ1 v1 d1 s1 g1 rx1 e1' p1 => ?_
      refine sa.stepS s1 e1' p1 fun G2 H2 δ2 v d s2 g2 rx e2' p2 => ?_
      split at e2'
      · rename_i kk xs hxs
        split at e2'
        · rename_i hl
          cases e2'
          cases rx1
          obtain ⟨q', ws, f1, f2, f3, f4, f5⟩ := s2.own i xs (ownAt_some hxs)
          rw [e1] at f1
          cases f1
          refine ⟨_, ws, kk, v, rfl, rfl, f2, by rw [f3.length]; exact lt6 hl.2.2, hl.1, by omega, ?_⟩
          exact p2 σ G2 _ (s2.setOwn (ownAt_some hxs) e1 (((f3.take _).append (.cons rx .nil)).append (f3.drop _))) (Same.refl _)
        · cases e2'
      · cases e2'
end FL

set_option Elab.async false
set_option linter.all false
set_option maxRecDepth 100000
set_option maxHeartbeats 2000000
/-! FL18: reading a list of one's own. -/
namespace FL
open PySem PySem.Spec PyProof.Rows L2
section
variable {c : SC}
def lenO (i : Nat) : M D := fun δ => match ownAt δ i with
  | some xs => some (.ok (.int xs.length) δ)
  | none => none
theorem fe_lenO (i : Nat) {x : Str} {p p1 pos : Pos} (hm : c.mg "len" = none) (hN : c.N[i]? = some x := by rfl) (hv : Vis c.sc x := by first | exact Or.inl rfl | exact Or.inr (Or.inl rfl) | exact Or.inr (Or.inr rfl)) (hg : Gb c "len" := by rfl)
    (hd : (x == ("__debug__" : Str)) = false := by decide) (hcd : (x == ("__classdict__" : Str)) = false := by decide)
    (he : ∀ env : Env, starEach [.Name x p1] env = (false, eval (.Name x p1) env) :: starEach [] env := by intro _; rfl) (hpl : ∀ env : Env, (backTo pos (starEach [] env)).any (·.1) = false := by intro _; rfl) :
    FE c (.Call (.Name "len" p) [.Name x p1] [] pos) (lenO i) := by
  refine ⟨tCB (fun xs H Q => (∃ p ys, xs = [V.ref p] ∧ (SqL c.K H p ys ∨ SqT c.K H p ys) ∧ Q (.int ys.length) H) ∨ (∃ z, xs = [V.str z] ∧ z.length ≤ sizeLine ∧ Q (.int z.length) H)) (tCons (tVar i) tNil), fun X h => ?_, fun F σ G H δ r s e Q p => ?_⟩
  · have q := (call_len_seq (X := X)).or call_len_str
    rw [h.K] at q
    exact pe_callB q (show X.env.scope.names.lookup ("len" : Str) = _ by rw [h.sc]; exact hg) (by rw [h.mg]; exact hm) PySem.boot_len
      (pa_cons (pe_var (i := i) (x := x) (pos := p1) (by rw [h.N]; exact hN) (by rw [h.sc]; exact hv) hd hcd) pa_nil (he _)) (by decide) (by decide) (he _) (hpl _)
  · unfold lenO at e
    cases h0 : ownAt δ i with
    | none => rw [h0] at e; cases e
    | some xs =>
      rw [h0] at e
      cases e
      obtain ⟨q, vs, e1, e2, e3, e4, e5⟩ := s.own i xs (ownAt_some h0)
      refine ⟨_, e1, .inl ⟨q, vs, rfl, .inl (.inl (.inl e2)), ?_⟩⟩
      rw [e3.length]
      exact p G H _ s (Same.refl _) (.int _)
def ixO (i : Nat) (g : M D) : M D := fun δ => match ownAt δ i with
  | none => none
  | some _ => FL.bindM g (fun k δ => match k, ownAt δ i with
    | .int k, some xs => match L2.atI xs k with
      | some d => some (.ok d δ)
      | none => none
    | _, _ => none) δ
theorem fe_ixO (i : Nat) {x : Str} {b : Expr} {fb : M D} {p1 pos : Pos} (hb : FE c b fb) (hN : c.N[i]? = some x := by rfl) (hv : Vis c.sc x := by first | exact Or.inl rfl | exact Or.inr (Or.inl rfl) | exact Or.inr (Or.inr rfl))
    (hd : (x == ("__debug__" : Str)) = false := by decide) (hcd : (x == ("__classdict__" : Str)) = false := by decide) (hs : PlainIx b := by intro _ _; rfl) : FE c (.Subscript (.Name x p1) b pos) (ixO i fb) := by
  obtain ⟨tb, pb, sb⟩ := hb.ex
  refine ⟨tOp (rIx c.K) (tVar i) tb, fun X h => ?_, fun F σ G H δ r s e Q p => ?_⟩
  · have := pe_ix (X := X) (pos := pos) ix_seq (pe_var (i := i) (x := x) (pos := p1) (by rw [h.N]; exact hN) (by rw [h.sc]; exact hv) hd hcd) (pb X h) hs
    rwa [h.K] at this
  · unfold ixO at e
    cases h0 : ownAt δ i with
    | none => rw [h0] at e; cases e
    | some xs =>
      rw [h0] at e
      dsimp only at e
      obtain ⟨q, vs, e1, e2, e3, e4, e5⟩ := s.own i xs (ownAt_some h0)
      refine ⟨_, e1, ?_⟩
      refine sb.step s e p fun G1 H1 δ1 v d s1 g1 rx e1' p1 => ?_
      split at e1'
      · rename_i k ys hy
        obtain ⟨q', ws, f1, f2, f3, f4, f5⟩ := s1.own i ys (ownAt_some hy)
        rw [e1] at f1
        cases f1
        split at e1'
        · rename_i d ha
          cases e1'
          cases rx
          obtain ⟨w, w1, w2⟩ := f3.atI ha
          exact .inl ⟨_, _, k, w, rfl, rfl, .inl (.inl f2), w1, p1 G1 H1 _ s1 (Same.refl _) w2⟩
        · cases e1'
      · cases e1'
end
end FL

set_option Elab.async false
set_option linter.all false
set_option maxRecDepth 100000
set_option maxHeartbeats 2000000
/-! FL19: defs with defaults; lists of kept lambdas. -/
namespace FL
open PySem PySem.Spec PyProof.Rows L2
theorem fnOkD {P : Program} {w : World} {K : PySem.W.Frag} {mg : Str → Option Value} {base : Heap} {cl : Nat → Addr} {T : List (Addr × Str)} {k : Nat} {x : Str} {params : Arguments} {bd : List Stmt} {scope : Scope} {dvs : List V} {a : Addr} {fd : FuncData} {N ps : List Str} {f : Fo} (Fn : FunD K x x params bd scope dvs [] a fd) (Sc : FnScope N ps scope) (hN : ps.length ≤ N.length)
    (body : ∀ E : XK, FS ⟨P, w, K, mg, base, N, scope, k, cl, E, fun _ => true, (T, false), .none, ""⟩ bd f) : FnOk P w K mg base (L2.CX P w) (k + 1) a fd ps (spD K cl T (defF N ps.length f)) := by
  refine Fn.ok Sc (fun vs H Q E h => ?_) (fun cdv A outer s H vs Q E hr h => ?_)
  · obtain ⟨F, G, ds, r, _, _, _, _, _, _, h1, h2, _⟩ := h
    unfold defF at h2
    split at h2
    · rename_i q; rw [h1.length, q]
    · cases h2
  · obtain ⟨F, G, ds, r, sub, frm, dis, ng, nf, tb, h1, h2, post⟩ := h
    unfold defF at h2
    split at h2
    · rename_i q
      obtain ⟨t, pt, sp⟩ := (body E).ex
      refine ⟨t, pt _ ⟨rfl, rfl, rfl, rfl, rfl, rfl, rfl, rfl, hr, fun _ => ⟨takes_of rfl rfl rfl rfl, rfl, rfl⟩, fun σ => passAt (takes_of rfl rfl rfl rfl) σ, fun _ _ => Or.inl rfl, fun _ => passes_of rfl, Or.inl rfl⟩, ?_⟩
      have s0 : S (K, (T, false)) F (L2.start N vs) G H (startD N ds) := S.start sub frm dis ng nf tb h1 (by omega)
      cases ho : f (startD N ds) with
      | none => rw [ho] at h2; cases h2
      | some o =>
        rw [ho] at h2
        refine sp F _ G H _ o s0 ho _ ?_
        cases o with
        | rt d => cases h2; exact fun σ' G' H' δ' v s' g' rv => post G' H' v g' s'.sub s'.frm s'.dis s'.ntg s'.tab rv
        | nx δ' => cases h2; exact fun σ' G' H' s' g' => post G' H' _ g' s'.sub s'.frm s'.dis s'.ntg s'.tab .non
        | ex c => cases h2; exact fun G' H' g' h' f' t' => post G' H' g' h' f' t'
        | bk δ' => cases h2
        | ct δ' => cases h2
    · cases h2
/-- one default, an int: the def called with all, and with one less -/
theorem funD_mk {K : PySem.W.Frag} {x : Str} {st : Stmt} {a T : Addr} {oc : Value} {od an uo : Option Addr} {sl us : Array (Option Value)} {kV doc pm cdv ct uc : Value} {ui : Array Value} {un : Nat} {dvs : List V} (hd : dvs ≠ [])
    (l : K.lookup a = some ⟨oc, od, .func (PySem.W.fnOf x x (defArgs st) (defBody st) (defScope st) (.ref T) kV doc pm an cdv ct), sl⟩) (c : PySem.W.codeIn K cdv x = true) (k : PySem.W.keepIn K (.ref a) = true) (t : K.lookup T = some ⟨uc, uo, .seq ui un, us⟩) (v : Vals dvs ui.toList) :
    FunD K x x (defArgs st) (defBody st) (defScope st) dvs [] a (PySem.W.fnOf x x (defArgs st) (defBody st) (defScope st) (.ref T) kV doc pm an cdv ct) :=
  ⟨⟨oc, od, .ref T, kV, doc, pm, an, cdv, ct, sl, rfl, l, c, .inr ⟨hd, T, _, ui.toList, un, rfl, t, by simp, v⟩, .inl rfl⟩, k⟩
theorem vals_nil {ds : List Value} (h : Vals [] ds) : ds = [] := by cases h; rfl
/-! ### the law's kept lambdas -/
def asgE : Stmt → Expr | .Assign _ e _ => e | _ => .Constant .none 0 ⟨0, 0, 0, 0⟩
def eltE (e : Expr) (k : Nat) : Expr := match e with | .List es _ => es.getD k e | .Tuple es _ _ => es.getD k e | _ => e
def mkLam (q : Str) (ix : Nat) : Expr → Lam | .Lambda a b s _ => ⟨a, b, s, q, ix⟩ | e => ⟨defArgs (.Pass ⟨0, 0, 0, 0⟩), e, defScope (.Pass ⟨0, 0, 0, 0⟩), q, ix⟩
theorem lk_nil {c : SC} {k : Nat} : ∀ x ∈ ([] : List (Lam × M D)), LamOk c k x.1 x.2 := fun _ h => nomatch h
theorem lk_cons {c : SC} {k : Nat} {L : Lam} {f : M D} {lt : List (Lam × M D)} (h : LamOk c k L f) (t : ∀ x ∈ lt, LamOk c k x.1 x.2) : ∀ x ∈ (L, f) :: lt, LamOk c k x.1 x.2 := fun x hx => by
  rcases List.mem_cons.mp hx with e | hx
  · subst e; exact h
  · exact t x hx
end FL

set_option Elab.async false
set_option linter.all false
set_option maxRecDepth 100000
set_option maxHeartbeats 2000000
/-! FL20: comprehensions with two fors. -/
namespace FL
open PySem PySem.Spec PyProof.Rows L2
/-- the outer for; inn: what the inner one makes of each item -/
def lcO (vs : List Nat) (bd : D → De → Option De) (tt : M Bool) (inn : M (List D)) : List D → M (List D)
  | [], δ => some (.ok [] δ)
  | x :: r, δ => if noOwn δ vs then match bd x (wipeD δ vs) with
    | none => none
    | some δ1 => match tt δ1 with
      | some (.ok true δ2) => match inn δ2 with
        | some (.ok ys δ3) => match lcO vs bd tt inn r (restD δ δ3 vs) with
          | some (.ok zs δ4) => some (.ok (ys ++ zs) δ4)
          | _ => none
        | _ => none
      | some (.ok false δ2) => lcO vs bd tt inn r (restD δ δ2 vs)
      | _ => none
    else none
def lcM2 (vs : List Nat) (bd : D → De → Option De) (tt : M Bool) (items1 : M (List D)) (vs1 : List Nat) (bd1 : D → De → Option De) (tt1 : M Bool) (fe : M D) (items : M (List D)) : M D :=
  bindM items fun ds => bindM (lcO vs bd tt (bindM items1 fun es => lcD vs1 bd1 tt1 fe es) ds) fun ys => if ys.length < 1000000 then pureM (.lst ys) else fun _ => none
theorem bindM_none {α β : Type} {m : M α} {k : α → M β} {δ : De} (h : m δ = none) : bindM m k δ = none := by unfold bindM; rw [h]
theorem lcD_noex {vs : List Nat} {bd : D → De → Option De} {tt : M Bool} {fe : M D} : ∀ (ds : List D) (δ : De) (k : Nat), lcD vs bd tt fe ds δ ≠ some (.ex k)
  | [], δ, k, h => by cases h
  | x :: r, δ, k, h => by
    rw [lcD] at h
    repeat' split at h
    all_goals first | cases h | exact lcD_noex r _ _ h
theorem lcO_noex {vs : List Nat} {bd : D → De → Option De} {tt : M Bool} {inn : M (List D)} : ∀ (ds : List D) (δ : De) (k : Nat), lcO vs bd tt inn ds δ ≠ some (.ex k)
  | [], δ, k, h => by cases h
  | x :: r, δ, k, h => by
    rw [lcO] at h
    repeat' split at h
    all_goals first | cases h | exact lcO_noex r _ _ h
theorem sp_lc2 {K : PySem.W.Frag} {T : Tb} {cl : Nat → Addr} {E : XK} {wi wi1 : TI} {g g1 : TG} {t t1 : TT} {te : TE} {items items1 : M (List D)} {is vs is1 vs1 : List Nat} {bd bd1 : D → De → Option De} {tt tt1 : M Bool} {fe : M D}
    (si : Sp2 (K, T) cl E (Walks K) wi items) (sg : ∀ F σ G H δ v d δ', S (K, T) F σ G H δ → Rep K G v d → bd d δ = some δ' → ∀ Q, (∀ σ', S (K, T) F σ' G H δ' → Agr is σ σ' → Q σ' H) → g v σ H Q)
    (st : Sp2 (K, T) cl (fun _ _ _ => False) RepB t tt) (his : ∀ i ∈ is, i ∈ vs)
    (si1 : Sp2 (K, T) cl (fun _ _ _ => False) (Walks K) wi1 items1) (sg1 : ∀ F σ G H δ v d δ', S (K, T) F σ G H δ → Rep K G v d → bd1 d δ = some δ' → ∀ Q, (∀ σ', S (K, T) F σ' G H δ' → Agr is1 σ σ' → Q σ' H) → g1 v σ H Q)
    (st1 : Sp2 (K, T) cl (fun _ _ _ => False) RepB t1 tt1) (his1 : ∀ i ∈ is1, i ∈ vs1) (se : Sp2 (K, T) cl (fun _ _ _ => False) (Rep K) te fe) :
    Sp2 (K, T) cl E (Rep K) (tLc2 wi g t wi1 g1 t1 te vs vs1) (lcM2 vs bd tt items1 vs1 bd1 tt1 fe items) := by
  intro F σ G H δ r s e Q p
  refine si.step s e p fun G1 H1 δ1 J ds s1 g1' W e1 p1 => ?_
  intro D hD
  have fD : F D = none := s1.frm.free hD
  cases hlc : lcO vs bd tt (bindM items1 fun es => lcD vs1 bd1 tt1 fe es) ds δ1 with
  | none => rw [bindM_none hlc] at e1; cases e1
  | some rr =>
    cases rr with
    | ex k => exact absurd hlc (lcO_noex _ _ _)
    | ok ysA δf =>
      rw [bindM_ok hlc] at e1
      split at e1
      · rename_i hlen
        cases e1
        refine ⟨fun i m H => m = ds.length - i ∧ i ≤ ds.length ∧ ∃ G2 δ2 accV accD ys, Same G1 G2 ∧ S (K, T) (upd F D (.lst accV)) σ G2 H δ2 ∧ RepL K G2 accV accD ∧ lcO vs bd tt (bindM items1 fun es => lcD vs1 bd1 tt1 fe es) (ds.drop i) δ2 = some (.ok ys δf) ∧ ysA = accD ++ ys,
          ⟨ds.length, by simp, Nat.zero_le _, G1, δ1, [], [], ysA, Same.refl _, s1.enter hD, .nil, hlc, rfl⟩, ?_⟩
        rintro i m H2 ⟨rfl, hi, G2, δ2, accV, accD, ys, g2, s2, ra, e2, ey⟩
        by_cases hl : i < ds.length
        · have hd : ds[i]? = some ds[i] := List.getElem?_eq_getElem hl
          rw [List.drop_eq_getElem_cons hl, lcO] at e2
          split at e2
          · rename_i hno
            refine .inr ⟨W.go _ _ σ G2 H2 δ2 i g2 s2 hl, fun H' => ∃ G5 δ5 accV' accD' ys', Same G1 G5 ∧ S (K, T) (upd F D (.lst accV')) σ G5 H' δ5 ∧ RepL K G5 accV' accD' ∧ lcO vs bd tt (bindM items1 fun es => lcD vs1 bd1 tt1 fe es) (ds.drop (i + 1)) δ5 = some (.ok ys' δf) ∧ ysA = accD' ++ ys',
              fun H' z => ⟨ds.length - (i + 1), by omega, rfl, hl, z⟩, fun x H3 hy => ?_⟩
            obtain ⟨G3, s3, g3, rx⟩ := W.yld _ _ (wipe σ vs) G2 H2 (wipeD δ2 vs) i x H3 _ g2 (s2.wipes vs) hy hd
            cases hbd : bd ds[i] (wipeD δ2 vs) with
            | none => rw [hbd] at e2; cases e2
            | some δ3 =>
              rw [hbd] at e2
              dsimp only at e2
              refine sg _ (wipe σ vs) G3 H3 _ x _ δ3 s3 rx hbd _ fun σ3 s4 ag => ⟨wipe_agr ag his, ?_⟩
              have g23 : Same G2 G3 := g3
              have agr3 : ∀ j, j ∉ vs → σ3[j]? = σ[j]? := fun j hj => by
                rw [ag.2 j fun z => hj (his j z), wipe_get, if_neg hj]
              have len3 : σ3.length = σ.length := ag.1.trans (wipe_length _ _)
              cases ht : tt δ3 with
              | none => rw [ht] at e2; cases e2
              | some rt =>
                rw [ht] at e2
                cases rt with
                | ex k => cases e2
                | ok b δ4 =>
                  refine st _ σ3 G3 H3 δ3 _ s4 ht _ fun G4 H4 b' s5 g4 rb => ?_
                  have eb : b' = b := rb
                  subst eb
                  cases b' with
                  | false =>
                    rw [if_neg Bool.false_ne_true]
                    dsimp only at e2
                    exact ⟨G4, _, accV, accD, ys, g2.trans (g23.trans g4), s5.unblock s2 (g23.trans g4) agr3 len3 hno, ra.mono (g23.trans g4), e2, ey⟩
                  | true =>
                    rw [if_pos rfl]
                    dsimp only at e2
                    cases hin : (bindM items1 fun es => lcD vs1 bd1 tt1 fe es) δ4 with
                    | none => rw [hin] at e2; cases e2
                    | some ri =>
                      rw [hin] at e2
                      cases ri with
                      | ex k => cases e2
                      | ok ysI δ7 =>
                        dsimp only at e2
                        cases hr : lcO vs bd tt (bindM items1 fun es => lcD vs1 bd1 tt1 fe es) (ds.drop (i + 1)) (restD δ2 δ7 vs) with
                        | none => rw [hr] at e2; cases e2
                        | some rr2 =>
                          rw [hr] at e2
                          cases rr2 with
                          | ex k => cases e2
                          | ok zs δ8 =>
                            cases e2
                            -- the inner for
                            cases hi1 : items1 δ4 with
                            | none => rw [bindM_none hi1] at hin; cases hin
                            | some rj =>
                              cases rj with
                              | ex k => rw [bindM_ex hi1] at hin; cases hin
                              | ok es δ5 =>
                                rw [bindM_ok hi1] at hin
                                refine si1 _ σ3 G4 H4 δ4 _ s5 hi1 _ fun G5 H5 J1 s6 g5 W1 => ?_
                                refine ⟨fun j k H => k = es.length - j ∧ j ≤ es.length ∧ ∃ G6 δ6 bV bD ys, Same G5 G6 ∧ S (K, T) (upd F D (.lst bV)) σ3 G6 H δ6 ∧ RepL K G6 bV bD ∧ lcD vs1 bd1 tt1 fe (es.drop j) δ6 = some (.ok ys δ7) ∧ accD ++ ysI = bD ++ ys,
                                  ⟨es.length, by simp, Nat.zero_le _, G5, δ5, accV, accD, ysI, Same.refl _, s6, ra.mono (g23.trans (g4.trans g5)), hin, rfl⟩, ?_⟩
                                rintro j k H6 ⟨rfl, hj, G6, δ6, bV, bD, yz, g6, s7, rb, e6, ez⟩
                                by_cases hjl : j < es.length
                                · have hde : es[j]? = some es[j] := List.getElem?_eq_getElem hjl
                                  rw [List.drop_eq_getElem_cons hjl, lcD] at e6
                                  split at e6
                                  · rename_i hno1
                                    refine .inr ⟨W1.go _ _ σ3 G6 H6 δ6 j g6 s7 hjl, fun H' => ∃ G9 δ9 bV' bD' ys', Same G5 G9 ∧ S (K, T) (upd F D (.lst bV')) σ3 G9 H' δ9 ∧ RepL K G9 bV' bD' ∧ lcD vs1 bd1 tt1 fe (es.drop (j + 1)) δ9 = some (.ok ys' δ7) ∧ accD ++ ysI = bD' ++ ys',
                                      fun H' z => ⟨es.length - (j + 1), by omega, rfl, hjl, z⟩, fun u H7 hyu => ?_⟩
                                    obtain ⟨G7, s8, g7, ru⟩ := W1.yld _ _ (wipe σ3 vs1) G6 H6 (wipeD δ6 vs1) j u H7 _ g6 (s7.wipes vs1) hyu hde
                                    cases hb1 : bd1 es[j] (wipeD δ6 vs1) with
                                    | none => rw [hb1] at e6; cases e6
                                    | some δa =>
                                      rw [hb1] at e6
                                      dsimp only at e6
                                      refine sg1 _ (wipe σ3 vs1) G7 H7 _ u _ δa s8 ru hb1 _ fun σ4 s9 ag1 => ⟨wipe_agr ag1 his1, ?_⟩
                                      have agr4 : ∀ j, j ∉ vs1 → σ4[j]? = σ3[j]? := fun j hj => by
                                        rw [ag1.2 j fun z => hj (his1 j z), wipe_get, if_neg hj]
                                      have len4 : σ4.length = σ3.length := ag1.1.trans (wipe_length _ _)
                                      cases ht1 : tt1 δa with
                                      | none => rw [ht1] at e6; cases e6
                                      | some ru1 =>
                                        rw [ht1] at e6
                                        cases ru1 with
                                        | ex k => cases e6
                                        | ok b1 δb =>
                                          refine st1 _ σ4 G7 H7 δa _ s9 ht1 _ fun G8 H8 b2 s10 g8 rb2 => ?_
                                          have eb2 : b2 = b1 := rb2
                                          subst eb2
                                          cases b2 with
                                          | false =>
                                            rw [if_neg Bool.false_ne_true]
                                            dsimp only at e6
                                            exact ⟨G8, _, bV, bD, yz, g6.trans (g7.trans g8), s10.unblock s7 (g7.trans g8) agr4 len4 hno1, rb.mono (g7.trans g8), e6, ez⟩
                                          | true =>
                                            rw [if_pos rfl]
                                            dsimp only at e6
                                            cases hf : fe δb with
                                            | none => rw [hf] at e6; cases e6
                                            | some rf =>
                                              rw [hf] at e6
                                              cases rf with
                                              | ex k => cases e6
                                              | ok y δc =>
                                                dsimp only at e6
                                                refine se _ σ4 G8 H8 δb _ s10 hf _ fun G9 H9 v s11 g9 ry => ?_
                                                have g69 : Same G6 G9 := g7.trans (g8.trans g9)
                                                cases hr1 : lcD vs1 bd1 tt1 fe (es.drop (j + 1)) (restD δ6 δc vs1) with
                                                | none => rw [hr1] at e6; cases e6
                                                | some rr3 =>
                                                  rw [hr1] at e6
                                                  cases rr3 with
                                                  | ex k => cases e6
                                                  | ok ys2 δd =>
                                                    cases e6
                                                    refine ⟨bV, s11.frm D _ upd_same, ?_, G9, restD δ6 δc vs1, bV ++ [v], bD ++ [y], ys2, g6.trans g69, (s11.unblock s7 g69 agr4 len4 hno1).relist, (rb.mono g69).append (.cons ry .nil), hr1, by rw [ez, List.append_assoc]; rfl⟩
                                                    have : ysA.length = (bD ++ y :: ys2).length + zs.length := by rw [← ez, ey]; simp [Nat.add_assoc]
                                                    rw [List.length_append, List.length_cons] at this
                                                    rw [rb.length, sizeLine_eq]
                                                    omega
                                  · cases e6
                                · have ej : j = es.length := by omega
                                  subst ej
                                  rw [List.drop_length] at e6
                                  cases e6
                                  rw [List.append_nil] at ez
                                  refine .inl ⟨W1.stop _ _ σ3 G6 H6 _ _ g6 s7 (Nat.le_refl _), ?_⟩
                                  have g26 : Same G2 G6 := g23.trans (g4.trans (g5.trans g6))
                                  exact ⟨G6, restD δ2 δ7 vs, bV, bD, zs, g2.trans g26, s7.unblock (s2.relist (b := bV)) g26 agr3 len3 hno, rb, hr, by rw [ey, ← ez, List.append_assoc]⟩
          · cases e2
        · have ei : i = ds.length := by omega
          subst ei
          rw [List.drop_length] at e2
          cases e2
          have gd : G2 D = none := s2.dis D _ upd_same
          refine .inl ⟨W.stop _ _ σ G2 H2 _ _ g2 s2 (Nat.le_refl _), ?_⟩
          rw [List.append_nil] at ey
          subst ey
          exact p1 (upd G2 D (.lst accV)) H2 _ (s2.leave fD) (g2.trans (same_upd gd)) (.lst upd_same (ra.mono (same_upd gd)))
      · cases e1
section
variable {c : SC}
theorem fe_lc2 {elt tg iter tg1 iter1 : Expr} {ifs ifs1 : List Expr} {scope : Scope} (own : List (Str × Nat)) (vs1 : List Nat) {pos : Pos} {items items1 : M (List D)} {is is1 : List Nat} {bd bd1 : D → De → Option De} {tt tt1 : M Bool} {fe : M D} (nd : c.N.Nodup) (hi : FI c tg iter items) (ok : blkC c.N c.sc scope own = true)
    (hg : FG (blkSC c scope) tg is bd) (ht : FTs (blkSC c scope) ifs tt) (hi1 : FI (blkSC c scope) tg1 iter1 items1) (hg1 : FG (blkSC c scope) tg1 is1 bd1) (ht1 : FTs (blkSC c scope) ifs1 tt1) (he : FE (blkSC c scope) elt fe)
    (his : ∀ i ∈ is, i ∈ own.map (·.2)) (his1 : ∀ i ∈ is1, i ∈ vs1) (hv : ∀ i ∈ vs1, i ∈ own.map (·.2)) (hs : ∀ (env : Env) x, foldedSetIterable iter env x = pure x := by intro _ _; rfl) (hs1 : ∀ (env : Env) x, foldedSetIterable iter1 env x = pure x := by intro _ _; rfl) :
    FE c (.ListComp elt [⟨tg, iter, ifs, 0⟩, ⟨tg1, iter1, ifs1, 0⟩] scope pos) (lcM2 (own.map (·.2)) bd tt items1 vs1 bd1 tt1 fe items) := by
  obtain ⟨wi, pi, si⟩ := hi.ex
  obtain ⟨wi1, pi1, si1⟩ := hi1.ex
  obtain ⟨g, pg, sg⟩ := hg.ex
  obtain ⟨g1, pg1, sg1⟩ := hg1.ex
  obtain ⟨t, pt, st⟩ := ht.ex
  obtain ⟨t1, pt1, st1⟩ := ht1.ex
  obtain ⟨te, pe, se⟩ := he.ex
  exact ⟨_, fun X h => pe_lc2 h.calm (by rw [h.N]; exact nd) (pi X h) (by rw [h.N, h.sc]; exact blkOk_by ok) hv (fun s H C cl fp => pg _ (in_blk h s H C cl fp)) (fun s H C cl fp => pt _ (in_blk h s H C cl fp)) (fun s H C cl fp => pi1 _ (in_blk h s H C cl fp)) (fun s H C cl fp => pg1 _ (in_blk h s H C cl fp)) (fun s H C cl fp => pt1 _ (in_blk h s H C cl fp)) (fun s H C cl fp => pe _ (in_blk h s H C cl fp)) (hs _) hs1,
    sp_lc2 si sg st his si1 sg1 st1 his1 se⟩
end
end FL

set_option Elab.async false
set_option linter.all false
set_option maxRecDepth 100000
set_option maxHeartbeats 2000000
/-! FL21: [::-1], list(range(..)), tuple + tuple. -/
namespace FL
open PySem PySem.Spec PyProof.Rows L2
section
variable {c : SC}
def revD : D → Option D
  | .lst ds => some (.lst ds.reverse)
  | _ => none
theorem RepL.reverse {K : PySem.W.Frag} {G : Hp} {vs : List V} {ds : List D} (r : RepL K G vs ds) : RepL K G vs.reverse ds.reverse := by
  have : ∀ {vs ds}, RepL K G vs ds → RepL K G vs.reverse ds.reverse := by
    intro vs
    induction vs with
    | nil => intro ds r; cases r; exact .nil
    | cons v vs ih =>
      intro ds r
      cases r with
      | cons h t =>
        rw [List.reverse_cons, List.reverse_cons]
        exact (ih t).append (.cons h .nil)
  exact this r
theorem fe_rev {e : Expr} {f : M D} {k : Nat} {p1 p2 p3 pos : Pos} (he : FE c e f) : FE c (.Subscript e (.Slice none none (some (.UnaryOp .USub (.Constant (.int 1) k p1) p2)) p3) pos) (un1 revD f) := by
  obtain ⟨t, pe, se⟩ := he.ex
  refine ⟨tRevL c.K t, fun X h => by have := pe_revL (X := X) (k := k) (p1 := p1) (p2 := p2) (p3 := p3) (pos := pos) (pe X h); rwa [h.K] at this, fun F σ G H δ r s e Q p => ?_⟩
  refine se.step s e p fun G1 H1 δ1 x d s1 g1 rx e1 p1 => ?_
  obtain ⟨d', hd, rfl⟩ := liftO_eq e1
  unfold revD at hd
  split at hd
  · cases hd
    cases rx with
    | lst h1 h2 => exact ⟨_, _, rfl, .of (s1.sub _ _ h1), fun q hq => p1 _ _ _ (s1.new hq) (same_upd (s1.sub.free hq)) (.lst upd_same (h2.reverse.mono (same_upd (s1.sub.free hq))))⟩
  · cases hd
def rgL (a b : Int) : List D := rangeL a (b - a).toNat
theorem rep_rg {K : PySem.W.Frag} {G : Hp} (a b : Int) : RepL K G (rgV a b) (rgL a b) := by
  unfold rgV rgL rangeL
  generalize List.range (b - a).toNat = l
  induction l with
  | nil => exact .nil
  | cons x l ih => exact .cons (.int _) ih
def rgD (a b : Int) : Option D := if -(2 ^ 62) ≤ a ∧ a < 2 ^ 62 ∧ -(2 ^ 62) ≤ b ∧ b < 2 ^ 62 ∧ (b - a).toNat ≤ 2 ^ 24 then some (.lst (rgL a b)) else none
def lrg1 (f : M D) : M D := bindM f fun d => match d with | .int b => liftO (rgD 0 b) | _ => fun _ => none
def lrg2 (f g : M D) : M D := bindM f fun d => bindM g fun e => match d, e with | .int a, .int b => liftO (rgD a b) | _, _ => fun _ => none
theorem fe_listRg1 {a : Expr} {f : M D} {p p1 pos pos1 : Pos} (hm : c.mg "list" = none) (hm1 : c.mg "range" = none) (ha : FE c a f) (hg : Gb c "list" := by rfl) (hg1 : Gb c "range" := by rfl)
    (h1 : ∀ env : Env, starEach [a] env = (false, eval a env) :: starEach [] env := by intro _; rfl) (h2 : ∀ env : Env, starEach [.Call (.Name "range" p1) [a] [] pos1] env = (false, eval (.Call (.Name "range" p1) [a] [] pos1) env) :: starEach [] env := by intro _; rfl) :
    FE c (.Call (.Name "list" p) [.Call (.Name "range" p1) [a] [] pos1] [] pos) (lrg1 f) := by
  obtain ⟨t, pa, sa⟩ := ha.ex
  refine ⟨tLstRg (tRg1 t), fun X h => pe_listRg h.calm (show X.env.scope.names.lookup ("list" : Str) = _ by rw [h.sc]; exact hg) (by rw [h.mg]; exact hm) (prg_1 (show X.env.scope.names.lookup ("range" : Str) = _ by rw [h.sc]; exact hg1) (by rw [h.mg]; exact hm1) (pa X h) (h1 _)) (h2 _), fun F σ G H δ r s e Q p => ?_⟩
  refine sa.step s e p fun G1 H1 δ1 x d s1 g1 rx e1 p1 => ?_
  cases d <;> try (cases e1)
  rename_i b
  cases rx
  obtain ⟨d', hd, rfl⟩ := liftO_eq e1
  unfold rgD at hd
  split at hd
  · rename_i ok
    cases hd
    exact ⟨b, rfl, ok, fun q hq => p1 _ _ _ (s1.new hq) (same_upd (s1.sub.free hq)) (.lst upd_same (rep_rg 0 b))⟩
  · cases hd
theorem fe_listRg2 {a b : Expr} {f g : M D} {p p1 pos pos1 : Pos} (hm : c.mg "list" = none) (hm1 : c.mg "range" = none) (ha : FE c a f) (hb : FE c b g) (hg : Gb c "list" := by rfl) (hg1 : Gb c "range" := by rfl)
    (h1 : ∀ env : Env, starEach [a, b] env = (false, eval a env) :: starEach [b] env := by intro _; rfl) (h3 : ∀ env : Env, starEach [b] env = (false, eval b env) :: starEach [] env := by intro _; rfl) (hpl : ∀ env : Env, (backTo pos1 (starEach [b] env)).any (·.1) = false := by intro _; rfl)
    (h2 : ∀ env : Env, starEach [.Call (.Name "range" p1) [a, b] [] pos1] env = (false, eval (.Call (.Name "range" p1) [a, b] [] pos1) env) :: starEach [] env := by intro _; rfl) :
    FE c (.Call (.Name "list" p) [.Call (.Name "range" p1) [a, b] [] pos1] [] pos) (lrg2 f g) := by
  obtain ⟨t, pa, sa⟩ := ha.ex
  obtain ⟨u, pb, sb⟩ := hb.ex
  refine ⟨tLstRg (tRg2 t u), fun X h => pe_listRg h.calm (show X.env.scope.names.lookup ("list" : Str) = _ by rw [h.sc]; exact hg) (by rw [h.mg]; exact hm) (prg_2 (show X.env.scope.names.lookup ("range" : Str) = _ by rw [h.sc]; exact hg1) (by rw [h.mg]; exact hm1) (pa X h) (pb X h) (h1 _) (h3 _) (hp := hpl _)) (h2 _), fun F σ G H δ r s e Q p => ?_⟩
  refine sa.step s e p fun G1 H1 δ1 x d s1 g1 rx e1 p1 => ?_
  refine sb.step s1 e1 p1 fun G2 H2 δ2 y d2 s2 g2 ry e2 p2 => ?_
  split at e2
  · rename_i i j
    cases ry
    cases rx
    obtain ⟨d', hd, rfl⟩ := liftO_eq e2
    unfold rgD at hd
    split at hd
    · rename_i ok
      cases hd
      exact ⟨i, j, rfl, rfl, ok, fun q hq => p2 _ _ _ (s2.new hq) (same_upd (s2.sub.free hq)) (.lst upd_same (rep_rg i j))⟩
    · cases hd
  · cases e2
end
end FL

set_option Elab.async false
set_option linter.all false
set_option maxRecDepth 100000
set_option maxHeartbeats 2000000
/-! FL22: classes: fields, methods, instances made. -/
namespace FL
open PySem PySem.Spec PyProof.Rows L2
/-- names and values side by side -/
theorem zip_lookup {f : Str} : ∀ {names : List Str} {vs : List V} {j : Nat}, names[j]? = some f → names.Nodup → (names.zip vs).lookup f = vs[j]?
  | [], _, _, h, _ => by simp at h
  | n :: names, [], j, h, nd => by simp
  | n :: names, v :: vs, 0, h, nd => by
    simp at h; subst h
    simp
  | n :: names, v :: vs, j + 1, h, nd => by
    have h' : names[j]? = some f := by simpa using h
    have nf : f ≠ n := by
      rintro rfl
      exact (List.nodup_cons.mp nd).1 (List.mem_of_getElem? h')
    rw [List.zip_cons_cons, List.lookup_cons]
    have : (f == n) = false := by simpa using nf
    rw [this]
    simpa using zip_lookup h' (List.nodup_cons.mp nd).2
theorem zip_none {f : Str} : ∀ {names : List Str} {vs : List V}, f ∉ names → (names.zip vs).lookup f = none
  | [], _, _ => by simp
  | n :: names, [], _ => by simp
  | n :: names, v :: vs, h => by
    have nf : (f == n) = false := by
      have : f ≠ n := fun e => h (by simp [e])
      simpa using this
    rw [List.zip_cons_cons, List.lookup_cons, nf]
    exact zip_none fun z => h (by simp [z])
theorem putF_zip {f : Str} {v : V} : ∀ {names : List Str} {vs : List V}, names[vs.length]? = some f → f ∉ names.take vs.length → putF f v (names.zip vs) = names.zip (vs ++ [v])
  | [], _, h, _ => by simp at h
  | n :: names, [], h, _ => by simp at h; subst h; simp [putF]
  | n :: names, w :: vs, h, hn => by
    have nf : ¬ n = f := by
      intro e; apply hn; simp [e]
    rw [List.zip_cons_cons, putF, if_neg nf, List.cons_append, List.zip_cons_cons, putF_zip (by simpa using h) (by intro z; apply hn; simp [z])]
theorem ClsAt.uniq {K : PySem.W.Frag} {n : Nat} {C C' : Addr} (h : ClsAt K n C) (h' : ClsAt K n C') : C = C' := by
  unfold ClsAt at h h'
  rw [h] at h'
  cases h'
  rfl
/-- what is known of the n-th class -/
structure ClsD (K : PySem.W.Frag) (mg : Str → Option Value) (n : Nat) : Prop where
  ex : ∃ C : Addr, ClsAt K n C ∧ mg (clsName n) = some (.ref C) ∧ Cls K C ∧ ∀ f ∈ fldN n, NoAttr K C f
/-! ### e.f -/
def fldD (n j : Nat) : D → Option D
  | .ins m ds => if m = n then ds[j]? else none
  | _ => none
section
variable {c : SC}
theorem fe_fld (n j : Nat) {e : Expr} {f : Str} {fe : M D} {pos : Pos} (CD : ClsD c.K c.mg n) (he : FE c e fe) (hf : (fldN n)[j]? = some f := by rfl) (nd : (fldN n).Nodup := by decide +kernel)
    (hb : ∀ env : Env, attributeBase e f env (eval e env) = eval e env := by intro _; rfl) : FE c (.Attribute e f pos) (un1 (fldD n j) fe) := by
  obtain ⟨t, pa, sa⟩ := he.ex
  obtain ⟨C, hC, _, hcl, hna⟩ := CD.ex
  refine ⟨tFld c.K t f, fun X h => ?_, fun F σ G H δ r s e Q p => ?_⟩
  · have := pe_fld (X := X) (e := ‹Expr›) (f := f) (pos := pos) (pa X h) (hb _)
    rw [h.K] at this
    exact this
  · refine sa.step s e p fun G1 H1 δ1 v d s1 g1 rv e1 p1 => ?_
    obtain ⟨b, hb', rfl⟩ := liftO_eq e1
    cases rv with
    | @ins a C' dx m vs ds k1 k2 k3 k4 =>
      unfold fldD at hb'
      dsimp only at hb'
      split at hb'
      · rename_i em
        subst em
        have eC := k1.uniq hC
        subst eC
        obtain ⟨w, hw, rw'⟩ := k4.get hb'
        exact ⟨a, C', dx, _, w, rfl, s1.sub _ _ k2, hcl, hna f (List.mem_of_getElem? hf), by rw [zip_lookup hf nd]; exact hw, p1 G1 H1 w s1 (Same.refl _) rw'⟩
      · cases hb'
    | _ => cases hb'
/-! ### o.m(..) -/
structure FnM (P : Program) (w : World) (K : PySem.W.Frag) (mg : Str → Option Value) (base : Heap) (cl : Nat → Addr) (T : List (Addr × Str)) (k n : Nat) (m : Str) (f : DF) : Prop where
  ex : ∃ (C a : Addr) (fd : FuncData) (ps : List Str), ClsAt K n C ∧ Cls K C ∧ Meth K C m a ∧ Binds K fd ps [] ∧ FnOk P w K mg base (L2.CX P w) k a fd ps (spD K cl T f)
  nf : m ∉ fldN n
def methM (n : Nat) (f : DF) (fo : M D) (fa : M (List D)) : M D := bindM fo fun o => match o with
  | .ins m ds => if m = n then bindM fa fun es => resM (f (.ins m ds :: es)) else fun _ => none
  | _ => fun _ => none
/-- the callee's promise, from what its data give -/
theorem spD_of {T : Tb} {F G H : Hp} {σ : L2.St} {δ : De} {f : DF} {vs : List V} {ds : List D} {r : R D} {Q : VK} (s : S (c.K, T) F σ G H δ) (rx : RepL c.K G vs ds) (e : resM (f ds) δ = some r)
    (p : Post (c.K, T) c.cl c.E F σ G (Rep c.K) Q r) : spD c.K c.cl T.1 f vs H Q (fun cls d H => c.E cls d H) := by
  unfold resM at e
  cases h : f ds with
  | none => rw [h] at e; cases e
  | some rr =>
    rw [h] at e
    refine ⟨besides G H, G, ds, rr, s.sub, fun b o e => (besides_at e).2.1, fun b o e => (besides_at e).1, s.ntg, fun b ps e => (besides_at e).2.2 ps rfl, besides_tab s.tab, rx, h, ?_⟩
    cases rr with
    | ret d =>
      cases e
      exact fun G' H' v g' h' f' d' n' t' rv => p G' H' v (s.after g' h' f' d' n' t') g' rv
    | ex k =>
      cases e
      exact fun G' H' g' h' f' t' => p G' H' g' h' (fun b o e => f' _ _ (besides_of (s.frm _ _ e) (s.dis _ _ e) fun ps z => s.ntf b ps (by rw [e, z]))) t'
theorem fe_meth {k n : Nat} {m : Str} {f : DF} {o e : Expr} {es : List Expr} {fo : M D} {fa : M (List D)} {apos pos : Pos} (F : FnM c.P c.w c.K c.mg c.base c.cl c.T.1 k n m f) (ho : FE c o fo) (ha : FA c (e :: es) fa) (hk : Nat.ble k c.k = true := by rfl)
    (hst : ∀ env : Env, starEach (e :: es) env = (false, eval e env) :: starEach es env := by intro _; rfl) (hpl : ∀ env : Env, (backTo pos (starEach es env)).any (·.1) = false := by intro _; rfl)
    (ht : ∀ env : Env, ∃ pl : Sem Bool, eval (.Call (.Attribute o m apos) (e :: es) [] pos) env = (do
      let ov ← eval o env
      standAt apos.atName
      let (f, first) ← holding [ov] (getMethod ov m pl)
      callWith pos f first (backTo pos (starEach (e :: es) env)) (backToKw pos (keywordEach [] env))) := by intro _; exact ⟨_, rfl⟩) :
    FE c (.Call (.Attribute o m apos) (e :: es) [] pos) (methM n f fo fa) := by
  obtain ⟨t, pt, st⟩ := ha.ex
  obtain ⟨to, po, so⟩ := ho.ex
  obtain ⟨C, a, fd, ps, h1, h2, h3, h4, h5⟩ := F.ex
  refine ⟨tMeth C m (spD c.K c.cl c.T.1 f) [] (fun cls d H => c.E cls d H) to t, fun X h => ?_, fun F' σ G H δ r s e Q p => ?_⟩
  · have h5' : FnOk X.prog X.w X.K X.mg X.base (L2.CX X.prog X.w) k a fd ps (spD c.K c.cl c.T.1 f) := by rw [h.P, h.w, h.K, h.mg, h.base]; exact h5
    obtain ⟨pl, hpe⟩ := ht X.env
    exact pe_meth (pl := pl) (po X h) (by rw [h.K]; exact h2) (by rw [h.K]; exact h3) h5' (h.room.mono (Nat.le_of_ble_eq_true hk)) (by rw [h.K]; exact h4) .nil (fun pins σ H s e s' I c => h.pa σ pins H s e s' I c) (pt X h) (hst _) (hpl _) hpe
  · refine so.step s e p fun G1 H1 δ1 v d s1 g1 rv e1 p1 => ?_
    cases rv with
    | @ins b C' dx q vs ds k1 k2 k3 k4 =>
      dsimp only at e1
      split at e1
      · rename_i em
        subst em
        have eC := k1.uniq h1
        subst eC
        refine ⟨b, dx, _, rfl, s1.sub _ _ k2, zip_none F.nf, ?_⟩
        refine st.step s1 e1 p1 fun G2 H2 δ2 ws es s2 g2 rw2 e2 p2 => ?_
        rw [List.append_nil]
        exact spD_of s2 (.cons ((Rep.ins k1 k2 k3 k4).mono g2) rw2) e2 p2
      · cases e1
    | _ => cases e1
theorem fe_meth0 {k n : Nat} {m : Str} {f : DF} {o : Expr} {fo : M D} {apos pos : Pos} (F : FnM c.P c.w c.K c.mg c.base c.cl c.T.1 k n m f) (ho : FE c o fo) (hk : Nat.ble k c.k = true := by rfl)
    (ht : ∀ env : Env, ∃ pl : Sem Bool, eval (.Call (.Attribute o m apos) [] [] pos) env = (do
      let ov ← eval o env
      standAt apos.atName
      let (f, first) ← holding [ov] (getMethod ov m pl)
      callWith pos f first (backTo pos (starEach [] env)) (backToKw pos (keywordEach [] env))) := by intro _; exact ⟨_, rfl⟩) :
    FE c (.Call (.Attribute o m apos) [] [] pos) (methM n f fo (pureM [])) := by
  obtain ⟨to, po, so⟩ := ho.ex
  obtain ⟨C, a, fd, ps, h1, h2, h3, h4, h5⟩ := F.ex
  refine ⟨tMeth C m (spD c.K c.cl c.T.1 f) [] (fun cls d H => c.E cls d H) to tNil, fun X h => ?_, fun F' σ G H δ r s e Q p => ?_⟩
  · have h5' : FnOk X.prog X.w X.K X.mg X.base (L2.CX X.prog X.w) k a fd ps (spD c.K c.cl c.T.1 f) := by rw [h.P, h.w, h.K, h.mg, h.base]; exact h5
    obtain ⟨pl, hpe⟩ := ht X.env
    exact pe_meth0 (pl := pl) (po X h) (by rw [h.K]; exact h2) (by rw [h.K]; exact h3) h5' (h.room.mono (Nat.le_of_ble_eq_true hk)) (by rw [h.K]; exact h4) .nil (fun pins σ H s e s' I c => h.pa σ pins H s e s' I c) hpe
  · refine so.step s e p fun G1 H1 δ1 v d s1 g1 rv e1 p1 => ?_
    cases rv with
    | @ins b C' dx q vs ds k1 k2 k3 k4 =>
      dsimp only at e1
      split at e1
      · rename_i em
        subst em
        have eC := k1.uniq h1
        subst eC
        refine ⟨b, dx, _, rfl, s1.sub _ _ k2, zip_none F.nf, ?_⟩
        exact spD_of s1 (.cons (.ins k1 k2 k3 k4) .nil) e1 p1
      · cases e1
    | _ => cases e1
/-- a method of one class or of another -/
def orF (f g : M D) : M D := fun δ => (f δ).or (g δ)
theorem pe_or {X : Cx} {e : Expr} {t t' : TE} (h : PE X e t) (h' : PE X e t') : PE X e (fun σ H Q => t σ H Q ∨ t' σ H Q) :=
  ⟨fun pins s σ H Q I z => z.elim (h.run pins s σ H Q I) (h'.run pins s σ H Q I)⟩
theorem fe_or2 {e : Expr} {f g : M D} (h : FE c e f) (h' : FE c e g) : FE c e (orF f g) := by
  obtain ⟨t, pt, st⟩ := h.ex
  obtain ⟨u, pu, su⟩ := h'.ex
  refine ⟨_, fun X i => pe_or (pt X i) (pu X i), fun F σ G H δ r s e Q p => ?_⟩
  unfold orF at e
  cases hf : f δ with
  | some a => rw [hf] at e; cases e; exact .inl (st F σ G H δ _ s hf Q p)
  | none => rw [hf] at e; exact .inr (su F σ G H δ _ s e Q p)
/-! ### C(..) -/
/-- the promise of __init__ -/
def spI (K : PySem.W.Frag) (cl : Nat → Addr) (T : List (Addr × Str)) (C : Addr) (f : DF) : Sp := fun vs H Q E => ∃ (F G : Hp) (ds : List D) (r : Res) (x dx : Addr) (ws : List V), vs = .ref x :: ws ∧ H x = some (.ins C dx []) ∧ F x = none ∧ G x = none ∧
  Same G H ∧ Same F H ∧ (∀ b o, F b = some o → G b = none) ∧ (∀ b ps, G b ≠ some (.tbl ps)) ∧ (∀ b ps, F b ≠ some (.tbl ps)) ∧ TabsIn T F H ∧ RepL K G ws ds ∧ f ds = some r ∧
  match r with
  | .ret d => ∀ G' H', Same G G' → Same G' H' → Same F H' → (∀ b o, F b = some o → G' b = none) → (∀ b ps, G' b ≠ some (.tbl ps)) → LamX.Tabs T H' → Rep K G' (.ref x) d → Q .non H'
  | .ex k => ∀ G' H', Same G G' → Same G' H' → Same F H' → LamX.Tabs T H' → E (.ref (cl k)) none H'
structure FnI (P : Program) (w : World) (K : PySem.W.Frag) (mg : Str → Option Value) (base : Heap) (cl : Nat → Addr) (T : List (Addr × Str)) (k n : Nat) (nd : Nat) (dv : List D) (f : DF) : Prop where
  ex : ∃ (C a : Addr) (fd : FuncData) (ps : List Str) (dvs : List V) (ds : List Value), ClsAt K n C ∧ mg (clsName n) = some (.ref C) ∧ Mk K C a ∧ Binds K fd ps ds ∧ Vals dvs ds ∧ (∀ G, RepL K G dvs dv) ∧ FnOk P w K mg base (L2.CX P w) k a fd ps (spI K cl T C f)
theorem fe_make {k n nd : Nat} {dv : List D} {x : Str} {f : DF} {p pos : Pos} {e : Expr} {es : List Expr} {fa : M (List D)} (F : FnI c.P c.w c.K c.mg c.base c.cl c.T.1 k n nd dv f) (ha : FA c (e :: es) fa) (hk : Nat.ble (k + 1) c.k = true := by rfl) (hx : clsName n = x := by rfl)
    (hg : Gb c x := by rfl)
    (hdb : (x == ("__debug__" : Str)) = false := by decide) (he : ∀ env : Env, starEach (e :: es) env = (false, eval e env) :: starEach es env := by intro _; rfl) (hpl : ∀ env : Env, (backTo pos (starEach es env)).any (·.1) = false := by intro _; rfl) :
    FE c (.Call (.Name x p) (e :: es) [] pos) (callM (fun l => f (l ++ dv)) fa) := by
  obtain ⟨t, pa, sa⟩ := ha.ex
  obtain ⟨C, a, fd, ps, dvs, ds, h1, h2, h3, h4, h5, h6, h7⟩ := F.ex
  subst hx
  refine ⟨tMake C (spI c.K c.cl c.T.1 C f) dvs (fun cls d H => c.E cls d H) t, fun X h => ?_, fun F' σ G H δ r s e Q p => ?_⟩
  · have h7' : FnOk X.prog X.w X.K X.mg X.base (L2.CX X.prog X.w) k a fd ps (spI c.K c.cl c.T.1 C f) := by rw [h.P, h.w, h.K, h.mg, h.base]; exact h7
    exact pe_make (by rw [h.K]; exact h3) h7' (h.room.mono (Nat.le_of_ble_eq_true hk)) (show X.env.scope.names.lookup _ = _ by rw [h.sc]; exact hg) (by rw [h.mg]; exact h2) (by rw [h.K]; exact h4) h5 (fun pins σ H s e s' I c => h.pa σ pins H s e s' I c) (pa X h) hdb (he _) (hpl _)
  · refine sa.step s e p fun G1 H1 δ1 vs es s1 g1 rx e1 p1 => ?_
    intro x dx nx ndx nex
    unfold resM at e1
    dsimp only at e1
    cases hf : f (es ++ dv) with
    | none => rw [hf] at e1; cases e1
    | some rr =>
      rw [hf] at e1
      have keep : ∀ b o, H1 b = some o → (upd (upd H1 dx (.own x)) x (.ins C dx [])) b = some o := fun b o z => by rw [upd_ne (ne_of_none z nx), upd_ne (ne_of_none z ndx)]; exact z
      have bx : besides G1 H1 x = none := by
        cases q : besides G1 H1 x with
        | none => rfl
        | some o => have := (besides_at q).2.1; rw [nx] at this; cases this
      refine ⟨besides G1 H1, G1, es ++ dv, rr, x, dx, _, rfl, upd_same, bx, s1.sub.free nx, fun b o z => keep b o (s1.sub _ _ z), fun b o z => keep b o (besides_at z).2.1, fun b o z => (besides_at z).1, s1.ntg, fun b ps e => (besides_at e).2.2 ps rfl, ⟨s1.tab.ext keep, (besides_tab s1.tab).2⟩, rx.append (h6 _), hf, ?_⟩
      cases rr with
      | ret d =>
        cases e1
        exact fun G' H' g' h' f' d' n' t' rv => ⟨rfl, p1 G' H' (.ref x) (s1.after g' h' f' d' n' t') g' rv⟩
      | ex k =>
        cases e1
        exact fun G' H' g' h' f' t' => p1 G' H' g' h' (fun b o e => f' _ _ (besides_of (s1.frm _ _ e) (s1.dis _ _ e) fun ps z => s1.ntf b ps (by rw [e, z]))) t'
end
/-! ### __init__ -/
def PostI (κ : PySem.W.Frag × Tb) (cl : Nat → Addr) (E : XK) (F G : Hp) (p : Addr) (Dn : Ends) : Out → Prop
  | .rt d => ∀ σ' G' H' δ', S κ F σ' G' H' δ' → Same G G' → Rep κ.1 G' (.ref p) d → Dn.nx σ' H'
  | .ex k => ∀ G' H', Same G G' → Same G' H' → Same F H' → LamX.Tabs κ.2.1 H' → E (.ref (cl k)) none H'
  | _ => False
theorem PostI.weak {κ : PySem.W.Frag × Tb} {cl : Nat → Addr} {E : XK} {F G G1 : Hp} {p : Addr} {Dn : Ends} (e : Same G G1) : ∀ {o : Out}, PostI κ cl E F G p Dn o → PostI κ cl E F G1 p Dn o
  | .rt d, h => fun σ' G' H' δ' s g r => h σ' G' H' δ' s (e.trans g) r
  | .ex k, h => fun G' H' g h' f => h G' H' (e.trans g) h' f
  | .nx _, h => h.elim
  | .bk _, h => h.elim
  | .ct _, h => h.elim
def insO (C dx : Addr) (n : Nat) (vs : List V) : HO := .ins C dx ((fldN n).zip vs)
def SpI (κ : PySem.W.Frag × Tb) (cl : Nat → Addr) (E : XK) (n : Nat) (C : Addr) (t : TS) (g : List D → Fo) : Prop :=
  ∀ F σ G H δ p dx vs fs o, F p = none → σ[0]? = some (some (V.ref p)) → S κ (upd F p (insO C dx n vs)) σ G H δ → RepL κ.1 G vs fs → g fs δ = some o → ∀ Dn, PostI κ cl E F G p Dn o → t Dn σ H
structure FSI (c : SC) (n : Nat) (sts : List Stmt) (g : List D → Fo) : Prop where
  ex : ∀ C, ClsAt c.K n C → Cls c.K C → (∀ f ∈ fldN n, NoAttr c.K C f) → ∃ t, (∀ X, In c X → PSs X sts t) ∧ SpI c.κ c.cl c.E n C t g
section
variable {K : PySem.W.Frag} {T : Tb} {F G H : Hp} {σ : L2.St} {δ : De}
theorem S.reins {p C dx : Addr} {n : Nat} {a b : List V} (s : S (K, T) (upd F p (insO C dx n a)) σ G H δ) (hf : F p = none) : S (K, T) (upd F p (insO C dx n b)) σ G (upd H p (insO C dx n b)) δ := by
  have hp : H p = some (insO C dx n a) := s.frm _ _ upd_same
  have gp : G p = none := s.dis p _ upd_same
  have nG : ∀ b o, G b = some o → b ≠ p := fun b o e => ne_of_none e gp
  refine ⟨fun b o e => ?_, fun b o e => ?_, fun b o e => ?_, s.len, s.val, fun i xs e => ?_, s.inj, fun x hx => ?_, fun x hx => ?_, s.ntg, fun b ps e => ?_, fun hl => ?_⟩
  · rw [upd_ne (nG _ _ e)]; exact s.sub _ _ e
  · by_cases hb : b = p
    · subst hb; rw [upd_same] at e ⊢; exact e
    · rw [upd_ne hb] at e ⊢; exact s.frm _ _ (by rw [upd_ne hb]; exact e)
  · by_cases hb : b = p
    · subst hb; exact gp
    · rw [upd_ne hb] at e; exact s.dis b o (by rw [upd_ne hb]; exact e)
  · obtain ⟨q, vs, h1, h2, h3, h4, h5⟩ := s.own i xs e
    have nq : q ≠ p := fun z => by rw [z, upd_same] at h5; cases h5
    exact ⟨q, vs, h1, by rw [upd_ne nq]; exact h2, h3, h4, by rw [upd_ne nq] at h5 ⊢; exact h5⟩
  · obtain ⟨ps, h1, h2, h3⟩ := s.tab x hx
    have nx : x.1 ≠ p := fun z => by rw [z, hp] at h1; cases h1
    refine ⟨ps, by rw [upd_ne nx]; exact h1, h2, fun pos cv hc => ?_⟩
    obtain ⟨c', e1, e2⟩ := h3 pos cv hc
    refine ⟨c', e1, ?_⟩
    rw [upd_ne]
    · exact e2
    · rintro rfl
      rw [hp] at e2
      unfold LamX.CodeO at e2
      cases e2
  · have := s.tnf x hx
    have nx : x.1 ≠ p := fun z => by have t := this.1; rw [z, upd_same] at t; cases t
    exact ⟨by rw [upd_ne nx] at this ⊢; exact this.1, this.2⟩
  · by_cases hb : b = p
    · subst hb; rw [upd_same] at e; cases e
    · rw [upd_ne hb] at e; exact s.ntf b ps (by rw [upd_ne hb]; exact e)
  · obtain ⟨xs, e⟩ := s.lw hl p _ upd_same
    cases e
theorem S.frzI {p C dx : Addr} {n : Nat} {a : List V} {fs : List D} (s : S (K, T) (upd F p (insO C dx n a)) σ G H δ) (hf : F p = none) (h0 : σ[0]? = some (some (V.ref p))) (hC : ClsAt K n C) (r : RepL K G a fs) (hl : fs.length = (fldN n).length) :
    Same G (upd G p (insO C dx n a)) ∧ Rep K (upd G p (insO C dx n a)) (.ref p) (.ins n fs) ∧ S (K, T) F σ (upd G p (insO C dx n a)) H (δ.set 0 (.val (.ins n fs))) := by
  have hp : H p = some (insO C dx n a) := s.frm _ _ upd_same
  have gp : G p = none := s.dis p _ upd_same
  have sg : Same G (upd G p (insO C dx n a)) := same_upd gp
  have rp : Rep K (upd G p (insO C dx n a)) (.ref p) (.ins n fs) := .ins hC upd_same hl (r.mono sg)
  have fne : ∀ b o, F b = some o → b ≠ p := fun b o e => ne_of_none e hf
  refine ⟨sg, rp, ⟨fun b o e => ?_, fun b o e => ?_, fun b o e => ?_, by simp [s.len], fun i d e => ?_, fun i xs e => ?_, fun i j xs ys hn e1 e2 => ?_, s.tab, fun x hx => ?_, fun b ps e => ?_, fun b ps e => ?_, fun hl => ?_⟩⟩
  · by_cases hb : b = p
    · subst hb; rw [upd_same] at e; rw [← e]; exact hp
    · rw [upd_ne hb] at e; exact s.sub _ _ e
  · exact s.frm _ _ (by rw [upd_ne (fne _ _ e)]; exact e)
  · rw [upd_ne (fne _ _ e)]; exact s.dis b o (by rw [upd_ne (fne _ _ e)]; exact e)
  · rcases get_set e with ⟨hi, _, z⟩ | ⟨hi, e⟩
    · cases z; subst hi; exact ⟨_, h0, rp⟩
    · obtain ⟨v, h1, h2⟩ := s.val i d e
      exact ⟨v, h1, h2.mono sg⟩
  · rcases get_set e with ⟨hi, _, z⟩ | ⟨hi, e⟩
    · cases z
    · obtain ⟨q, vs, h1, h2, h3, h4, h5⟩ := s.own i xs e
      have nq : q ≠ p := fun z => by rw [z, upd_same] at h5; cases h5
      exact ⟨q, vs, h1, h2, h3.mono sg, by rw [upd_ne nq]; exact h4, by rw [upd_ne nq] at h5; exact h5⟩
  · rcases get_set e1 with ⟨_, _, z⟩ | ⟨_, e1⟩
    · cases z
    · rcases get_set e2 with ⟨_, _, z⟩ | ⟨_, e2⟩
      · cases z
      · exact s.inj i j xs ys hn e1 e2
  · have := s.tnf x hx
    have nx : x.1 ≠ p := fun z => by have t := this.1; rw [z, upd_same] at t; cases t
    exact ⟨by rw [upd_ne nx] at this; exact this.1, by rw [upd_ne nx]; exact this.2⟩
  · by_cases hb : b = p
    · subst hb; rw [upd_same] at e; cases e
    · rw [upd_ne hb] at e; exact s.ntg b ps e
  · exact s.ntf b ps (by rw [upd_ne (fne _ _ e)]; exact e)
  · obtain ⟨xs, e⟩ := s.lw hl p _ upd_same
    cases e
end
section
variable {c : SC}
/-- self.f = e -/
def putI (n : Nat) (j : Nat) (f : M D) (g : List D → Fo) : List D → Fo := fun fs => thenS f fun d => if fs.length = j then g (fs ++ [d]) else fun _ => none
theorem fi_put (n j : Nat) {x f : Str} {e : Expr} {fe : M D} {p1 p2 pos : Pos} {rest : List Stmt} {g : List D → Fo} (he : FE c e fe) (hr : FSI c n rest g) (hj : (fldN n)[j]? = some f := by rfl) (hnt : f ∉ (fldN n).take j := by decide +kernel)
    (hN : c.N[0]? = some x := by rfl) (hv : Vis c.sc x := by first | exact Or.inl rfl | exact Or.inr (Or.inl rfl) | exact Or.inr (Or.inr rfl)) (hd : (x == ("__debug__" : Str)) = false := by decide) (hcd : (x == ("__classdict__" : Str)) = false := by decide)
    (hs : ∀ env : Env, env.scope = c.sc → swapsWith e (some (.Attribute (.Name x p1) f p2)) pos.line env = pure false := by intro _ _; rfl) (hm : (fldN n).length < 1000 := by decide) :
    FSI c n (.Assign [.Attribute (.Name x p1) f p2] e pos :: rest) (putI n j fe g) := by
  refine ⟨fun C hC hcl hna => ?_⟩
  obtain ⟨t, pt, st⟩ := he.ex
  obtain ⟨u, pu, su⟩ := hr.ex C hC hcl hna
  refine ⟨tSeq (sFld c.K (tVar 0) t f) u, fun X h => ?_, fun F σ G H δ p dx vs fs o hF h0 s r e Dn post => ?_⟩
  · have h1 := ps_fld (X := X) (f := f) (pos := pos) (pos' := p2) (pe_var (i := 0) (pos := p1) (by rw [h.N]; exact hN) (by rw [h.sc]; exact hv) hd hcd) (pt X h) (hs _ h.sc)
    rw [h.K] at h1
    exact pss_cons h1 (pu X h)
  · unfold putI thenS at e
    cases hf : fe δ with
    | none => rw [hf] at e; cases e
    | some ra =>
      rw [hf] at e
      refine st _ σ G H δ ra s hf _ ?_
      cases ra with
      | ex k =>
        cases e
        exact fun G' H' g' h' f' t' => post G' H' g' h' (fun b o z => f' b o (by rw [upd_ne (ne_of_none z hF)]; exact z)) t'
      | ok d δ1 =>
        intro G1 H1 v s1 g1 rv
        dsimp only at e
        split at e
        · rename_i hl
          have hp : H1 p = some (insO C dx n vs) := s1.frm _ _ upd_same
          have ev : vs.length = j := by rw [r.length]; exact hl
          refine ⟨_, h0, p, C, dx, _, rfl, hp, hcl, hna f (List.mem_of_getElem? hj), ?_, ?_⟩
          · rw [List.length_zip]; omega
          · rw [putF_zip (by rw [ev]; exact hj) (by rw [ev]; exact hnt)]
            exact su F σ G1 _ δ1 p dx (vs ++ [v]) (fs ++ [d]) o hF h0 (s1.reins hF) ((r.mono g1).append (.cons rv .nil)) e Dn (post.weak g1)
        · cases e
/-- if t: raise X -/
def raiI (t : M Bool) (k : Nat) (g : List D → Fo) : List D → Fo := fun fs => thenS t fun b => if b then (fun _ => some (.ex k)) else g fs
theorem fi_rai {n k : Nat} {e : Expr} {a : List Stmt} {t : M Bool} {pos : Pos} {rest : List Stmt} {g : List D → Fo} (h : FT c e t) (ha : FS c a (fun _ => some (.ex k))) (hr : FSI c n rest g) : FSI c n (.If e a [] pos :: rest) (raiI t k g) := by
  refine ⟨fun C hC hcl hna => ?_⟩
  obtain ⟨tt, pt, st⟩ := h.ex
  obtain ⟨ta, pa, sa⟩ := ha.ex
  obtain ⟨u, pu, su⟩ := hr.ex C hC hcl hna
  refine ⟨_, fun X h => pss_cons (ps_if (pt X h) (pa X h) pss_nil) (pu X h), fun F σ G H δ p dx vs fs o hF h0 s r e Dn post => ?_⟩
  unfold raiI thenS at e
  have px : ∀ k, PostI c.κ c.cl c.E F G p Dn (.ex k) → ∀ {G1}, Same G G1 → ∀ (Dn' : Ends), PostS c.κ c.cl c.E (upd F p (insO C dx n vs)) G1 Dn' (.ex k) := fun k z G1 g1 Dn' G' H' g' h' f' t' => z G' H' (g1.trans g') h' (fun b o q => f' b o (by rw [upd_ne (ne_of_none q hF)]; exact q)) t'
  cases hf : t δ with
  | none => rw [hf] at e; cases e
  | some ra =>
    rw [hf] at e
    refine st _ σ G H δ ra s hf _ ?_
    cases ra with
    | ex k =>
      cases e
      exact fun G' H' g' h' f' t' => px k post (Same.refl _) Dn G' H' g' h' f' t'
    | ok b δ1 =>
      intro G1 H1 v s1 g1 rv
      have eb : v = b := rv
      subst eb
      cases v with
      | true =>
        rw [if_pos rfl]
        cases e
        exact sa _ σ G1 H1 δ1 _ s1 rfl _ (px k post g1 _)
      | false =>
        rw [if_neg Bool.false_ne_true]
        exact su F σ G1 H1 δ1 p dx vs fs o hF h0 s1 (r.mono g1) e Dn (post.weak g1)
/-- from here on self is read, and no more changed -/
def frzI (n : Nat) (f : Fo) : List D → Fo := fun fs δ => if fs.length = (fldN n).length then match f (δ.set 0 (.val (.ins n fs))) with
    | some (.nx _) => some (.rt (.ins n fs))
    | some (.ex k) => some (.ex k)
    | _ => none
  else none
theorem fi_frz {n : Nat} {sts : List Stmt} {f : Fo} (h : FS c sts f) : FSI c n sts (frzI n f) := by
  refine ⟨fun C hC hcl hna => ?_⟩
  obtain ⟨t, pt, st⟩ := h.ex
  refine ⟨t, pt, fun F σ G H δ p dx vs fs o hF h0 s r e Dn post => ?_⟩
  unfold frzI at e
  split at e
  · rename_i hl
    obtain ⟨sg, rp, s2⟩ := s.frzI hF h0 hC r hl
    cases hf : f (δ.set 0 (.val (.ins n fs))) with
    | none => rw [hf] at e; cases e
    | some o' =>
      rw [hf] at e
      cases o' with
      | nx δ' =>
        cases e
        exact st F σ _ H _ _ s2 hf Dn fun σ' G' H' s' g' => post σ' G' H' δ' s' (sg.trans g') (rp.mono g')
      | ex k =>
        cases e
        exact st F σ _ H _ _ s2 hf Dn fun G' H' g' h' f' t' => post G' H' (sg.trans g') h' f' t'
      | _ => cases e
  · cases e
/-- the class's own function -/
def outI : Option Out → Option Res
  | some (.rt d) => some (.ret d)
  | some (.ex k) => some (.ex k)
  | _ => none
def mkF (N : List Str) (k : Nat) (g : List D → Fo) : DF := fun ds => if ds.length = k then outI (g [] (.un :: ds.map .val ++ List.replicate (N.length - (k + 1)) .un)) else none
theorem S.startI {K : PySem.W.Frag} {T : List (Addr × Str)} {F G H : Hp} {N : List Str} {x : Addr} {vs : List V} {ds : List D} (sub : Same G H) (frm : Same F H) (dis : ∀ b o, F b = some o → G b = none) (ng : ∀ b ps, G b ≠ some (.tbl ps)) (nf : ∀ b ps, F b ≠ some (.tbl ps)) (tb : TabsIn T F H) (r : RepL K G vs ds) (h : ds.length + 1 ≤ N.length) :
    S (K, (T, false)) F (L2.start N (.ref x :: vs)) G H (.un :: ds.map .val ++ List.replicate (N.length - (ds.length + 1)) .un) := by
  have e : (Sl.un :: ds.map Sl.val ++ List.replicate (N.length - (ds.length + 1)) Sl.un) = (Sl.un :: ds.map .val) ++ List.replicate (N.length - (ds.length + 1)) .un := rfl
  have at_ : ∀ (i : Nat) sl, (Sl.un :: ds.map Sl.val ++ List.replicate (N.length - (ds.length + 1)) Sl.un)[i]? = some sl → sl = .un ∨ ∃ j d, i = j + 1 ∧ ds[j]? = some d ∧ sl = .val d := fun i sl hh => by
    rw [e, List.getElem?_append] at hh
    split at hh
    · cases i with
      | zero => simp at hh; exact .inl hh.symm
      | succ j =>
        rw [List.getElem?_cons_succ, List.getElem?_map] at hh
        cases q : ds[j]? with
        | none => rw [q] at hh; cases hh
        | some d => rw [q] at hh; cases hh; exact .inr ⟨j, d, rfl, q, rfl⟩
    · rw [List.getElem?_replicate] at hh
      split at hh
      · cases hh; exact .inl rfl
      · cases hh
  have hvl : (V.ref x :: vs).length ≤ N.length := by rw [List.length_cons, r.length]; exact h
  refine ⟨sub, frm, dis, ?_, fun i d hh => ?_, fun i xs hh => ?_, fun i j xs ys _ hh => ?_, tb.1, tb.tnf sub ng, ng, nf, fun z => nomatch z⟩
  · rw [start_len hvl]; simp; omega
  · rcases at_ i _ hh with z | ⟨j, d', hi, hd, z⟩
    · cases z
    · cases z
      obtain ⟨v, h1, h2⟩ := r.get hd
      refine ⟨v, ?_, h2⟩
      subst hi
      have hj : j + 1 < (V.ref x :: vs).length := by
        obtain ⟨z, _⟩ := List.getElem?_eq_some_iff.mp h1
        simpa using z
      unfold L2.start
      rw [List.getElem?_append_left (by simpa using hj), List.getElem?_map, List.getElem?_cons_succ, h1]
      rfl
  · rcases at_ i _ hh with z | ⟨j, d', hi, hd, z⟩ <;> cases z
  · rcases at_ i _ hh with z | ⟨j, d', hi, hd, z⟩ <;> cases z
theorem fnI {P : Program} {w : World} {K : PySem.W.Frag} {mg : Str → Option Value} {base : Heap} {cl : Nat → Addr} {T : List (Addr × Str)} {k n : Nat} {q : Str} {st : Stmt} {a C : Addr} {fd : FuncData} {N ps : List Str} {g : List D → Fo} {code : Value} {qual : Str}
    (Fn : ∃ (oc : Value) (od : Option Addr) (params : Arguments) (dV kV doc pm : Value) (an : Option Addr) (cdv ct : Value) (osl : Array (Option Value)), fd = PySem.W.fnOf "__init__" q params (defBody st) (defScope st) dV kV doc pm an cdv ct ∧ K.lookup a = some ⟨oc, od, .func fd, osl⟩ ∧ PySem.W.codeIn K cdv q = true ∧ (code = .none ∨ (cdv = code ∧ q ++ ".<locals>." = qual)))
    (Sc : FnScope N ps (defScope st)) (hN : ps.length ≤ N.length) (hp : 1 ≤ ps.length) (hC : ClsAt K n C) (hcl : Cls K C) (hna : ∀ f ∈ fldN n, NoAttr K C f)
    (body : ∀ E : XK, FSI ⟨P, w, K, mg, base, N, defScope st, k, cl, E, fun _ => true, (T, false), code, qual⟩ n (defBody st) g) : FnOk P w K mg base (L2.CX P w) (k + 1) a fd ps (spI K cl T C (mkF N (ps.length - 1) g)) := by
  obtain ⟨oc, od, params, dV, kV, doc, pm, an, cdv, ct, osl, rfl, lk, hcd, hq⟩ := Fn
  refine fn_of lk hcd Sc (fun vs H Q E h => ?_) fun A outer s H vs Q E hr h => ?_
  · obtain ⟨F, G, ds, r, x, dx, ws, rfl, _, _, _, _, _, _, _, _, _, h1, h2, _⟩ := h
    unfold mkF at h2
    split at h2
    · rename_i e; rw [List.length_cons, h1.length, e]; omega
    · cases h2
  · obtain ⟨F, G, ds, r, x, dx, ws, rfl, hx, fx, gx, sub, frm, dis, ng, nf, tb, h1, h2, post⟩ := h
    unfold mkF at h2
    split at h2
    · rename_i e
      obtain ⟨t, pt, sp⟩ := (body E).ex C hC hcl hna
      refine ⟨t, pt _ ⟨rfl, rfl, rfl, rfl, rfl, rfl, rfl, rfl, hr, fun _ => ⟨takes_of rfl rfl rfl rfl, rfl, rfl⟩, fun σ => passAt (takes_of rfl rfl rfl rfl) σ, fun _ _ => Or.inl rfl, fun _ => passes_of rfl, hq⟩, ?_⟩
      have s0 := S.startI (K := K) (T := T) (N := N) (x := x) (F := upd F x (insO C dx n [])) sub (fun b o z => by
        by_cases hb : b = x
        · subst hb; rw [upd_same] at z; rw [← z, hx]; unfold insO; simp
        · rw [upd_ne hb] at z; exact frm _ _ z) (fun b o z => by
        by_cases hb : b = x
        · subst hb; exact gx
        · rw [upd_ne hb] at z; exact dis _ _ z) ng (fun b ps z => by
        by_cases hb : b = x
        · subst hb; rw [upd_same] at z; unfold insO at z; cases z
        · rw [upd_ne hb] at z; exact nf _ _ z) ⟨tb.1, fun p hp => by
        have nx : p.1 ≠ x := fun z => by obtain ⟨ps, h1, _⟩ := tb.1 p hp; rw [z, hx] at h1; cases h1
        rw [upd_ne nx]; exact tb.2 p hp⟩ h1 (by omega)
      rw [e] at s0
      have hst : (L2.start N (V.ref x :: ws))[0]? = some (some (V.ref x)) := rfl
      cases ho : g [] (.un :: ds.map .val ++ List.replicate (N.length - (ps.length - 1 + 1)) .un) with
      | none => rw [ho] at h2; cases h2
      | some o =>
        rw [ho] at h2
        refine sp F _ G H _ x dx [] [] o fx hst s0 .nil ho _ ?_
        cases o with
        | rt d => cases h2; exact fun σ' G' H' δ' s' g' rv => post G' H' g' s'.sub s'.frm s'.dis s'.ntg s'.tab rv
        | ex c => cases h2; exact fun G' H' g' h' f' t' => post G' H' g' h' f' t'
        | nx δ' => cases h2
        | bk δ' => cases h2
        | ct δ' => cases h2
    · cases h2
end
end FL

set_option Elab.async false
set_option linter.all false
set_option maxRecDepth 100000
set_option maxHeartbeats 2000000
/-! FL23: texts, repeats, in and index of data of any depth. -/
namespace FL
open PySem PySem.Spec PyProof.Rows L2
/-! ### a * b of a text, a list and an int -/
def strRep (z : Str) (n : Int) : Str := if n < 1 then Str.empty else if (n == 1 || z.length == 0) = true then z else ⟨(List.replicate n.toNat z.cps).foldl (· ++ ·) #[]⟩
def strMul : D → D → Option D
  | .str z, .int n => if z.length ≤ 1000 ∧ -1000 ≤ n ∧ n ≤ 1000 then some (.str (strRep z n)) else none
  | _, _ => none
def rStrMul : R2 := fun x y H Q => ∃ z n, x = V.str z ∧ y = V.int n ∧ z.length ≤ 1000 ∧ -1000 ≤ n ∧ n ≤ 1000 ∧ Q (.str (strRep z n)) H
theorem rep_size (a : Array Nat) : ∀ (k : Nat) (acc : Array Nat), ((List.replicate k a).foldl (· ++ ·) acc).size = acc.size + k * a.size
  | 0, acc => by simp
  | k + 1, acc => by
    rw [List.replicate_succ, List.foldl_cons, rep_size a k, Array.size_append, Nat.succ_mul]; omega
theorem op_strMul {X : Cx} : OpR X (binaryOp .Mult) rStrMul := by
  intro pins s σ H x y v u Q I rx ry h
  obtain ⟨z, n, rfl, rfl, h1, h2, h3, q⟩ := h
  obtain ⟨t, rfl⟩ := rx
  obtain ⟨t', rfl⟩ := ry
  have e1 : (decide (n < -(2 ^ 63 : Int)) || decide (n ≥ 2 ^ 63)) = false := by
    rw [decide_eq_false (by omega), decide_eq_false (by omega)]; rfl
  have hm : z.length * n.toNat ≤ 1000 * 1000 := Nat.mul_le_mul h1 (by omega)
  refine PySem.P.mul_str e1 (fun hn _ => ?_) (fun hn _ => ?_) ?_
  · have h4 : (0 : Int) < n := by omega
    have : (1000 : Int) ≤ (2 ^ 63 - 1) / n := by
      rw [Int.le_ediv_iff_mul_le h4]; omega
    omega
  · exact short24 (by omega)
  · unfold strRep at q
    split
    · rename_i hn
      rw [if_pos hn] at q
      exact ⟨by decide, .str Str.empty, H, I.tok _, ⟨_, rfl⟩, q⟩
    · rename_i hn
      rw [if_neg hn] at q
      split
      · rename_i hz
        rw [if_pos hz] at q
        exact ⟨.str z, H, I.tok _, ⟨_, rfl⟩, q⟩
      · rename_i hz
        rw [if_neg hz] at q
        refine ⟨?_, .str _, H, I.tok _, ⟨_, rfl⟩, q⟩
        show ((List.replicate n.toNat z.cps).foldl (· ++ ·) #[]).size ≤ sizeLine
        rw [rep_size]
        have hz' : z.cps.size = z.length := rfl
        have hc : n.toNat * z.cps.size = z.length * n.toNat := by rw [hz', Nat.mul_comm]
        rw [hc]
        exact small6 (by simp; omega)
theorem op2_strMul {K : PySem.W.Frag} : Op2 K rStrMul strMul := by
  refine ⟨fun T F σ G H δ v u a b d s rv ru e Q q => ?_⟩
  unfold strMul at e
  split at e
  · split at e
    · rename_i h
      cases e
      cases rv
      cases ru
      exact ⟨_, _, rfl, rfl, h.1, h.2.1, h.2.2, q G H _ s (Same.refl _) (.str _)⟩
    · cases e
  · cases e
def lstRep : D → D → Option D
  | .lst xs, .int n => if xs.length ≤ 1000 ∧ -1000 ≤ n ∧ n ≤ 1000 then some (.lst (List.replicate n.toNat xs).flatten) else none
  | _, _ => none
theorem RepL.reps {K : PySem.W.Frag} {G : Hp} {vs : List V} {ds : List D} (r : RepL K G vs ds) : ∀ n : Nat, RepL K G (List.replicate n vs).flatten (List.replicate n ds).flatten
  | 0 => .nil
  | n + 1 => by rw [List.replicate_succ, List.replicate_succ, List.flatten_cons, List.flatten_cons]; exact r.append (RepL.reps r n)
theorem op2_lstRep {K : PySem.W.Frag} : Op2 K rRep lstRep := by
  refine ⟨fun T F σ G H δ v u a b d s rv ru e Q q => ?_⟩
  unfold lstRep at e
  split at e
  · split at e
    · rename_i h
      cases e
      cases ru
      cases rv with
      | lst h1 h2 =>
        refine ⟨_, _, _, rfl, rfl, s.sub _ _ h1, by omega, by omega, ?_, fun p hp => ?_⟩
        · rw [h2.length]
          exact small6 (Nat.le_trans (Nat.mul_le_mul h.1 (show _ ≤ 1000 by omega)) (by decide))
        · have gp := s.sub.free hp
          exact q _ _ _ (s.new hp) (same_upd gp) (.lst upd_same ((h2.mono (same_upd gp)).reps _))
    · cases e
  · cases e
def mulA (a b : D) : Option D := (mulD a b).or ((strMul a b).or (lstRep a b))
section
variable {c : SC}
theorem fe_mulA {a b : Expr} {fa fb : M D} {pos : Pos} (ha : FE c a fa) (hb : FE c b fb) : FE c (.BinOp a .Mult b pos) (bin2 mulA fa fb) :=
  fe_op (fun _ _ => op_mul.or (op_strMul.or op_rep)) ((op2_I fun _ _ _ => .int _).or (op2_strMul.or op2_lstRep)) ha hb
/-! ### in, of any depth -/
def rInT (K : PySem.W.Frag) (neg : Bool) : R2 := fun x y H Q => ∃ d ds, Dp K H x d ∧ Dp K H y (.tuple ds) ∧ SeqAt.shaped d = true ∧ SeqAt.shaped (.tuple ds) = true ∧ Q (.bl (if neg then !(ds.any fun z => PyData.eqv z d) else ds.any fun z => PyData.eqv z d)) H
theorem op_inT {X : Cx} (hu : X.A.units + 65 < cLine) : OpR X (compareOp .In) (rInT X.K false) := by
  intro pins s σ H x y v u Q I rx ry h
  obtain ⟨d, ds, hd, he, sd, se, q⟩ := h
  obtain ⟨as, r1⟩ := Dp.reads I d x v hd rx
  obtain ⟨bs, r2⟩ := Dp.reads I (.tuple ds) y u he ry
  exact SeqAt.in_tuple_reads r2 r1 (SeqAt.canLay_of_shaped se) (SeqAt.canLay_of_shaped sd) (room_in_shaped sd hu) ⟨.bl _, H, I, rfl, q⟩
theorem op_notInT {X : Cx} (hu : X.A.units + 65 < cLine) : OpR X (compareOp .NotIn) (rInT X.K true) := by
  intro pins s σ H x y v u Q I rx ry h
  obtain ⟨d, ds, hd, he, sd, se, q⟩ := h
  obtain ⟨as, r1⟩ := Dp.reads I d x v hd rx
  obtain ⟨bs, r2⟩ := Dp.reads I (.tuple ds) y u he ry
  exact SeqAt.notIn_tuple_reads r2 r1 (SeqAt.canLay_of_shaped se) (SeqAt.canLay_of_shaped sd) (room_in_shaped sd hu) ⟨.bl _, H, I, rfl, q⟩
def rSign (neg : Bool) : R2 := fun x y H Q => ∃ (c : Nat) (z : Str), x = .str ⟨#[c]⟩ ∧ y = .str z ∧ Q (.bl (if neg then !decide (c ∈ z.cps.toList) else decide (c ∈ z.cps.toList))) H
def rInL (K : PySem.W.Frag) (neg : Bool) : R2 := fun x y H Q => ∃ d ds, Dp K H x d ∧ Dp K H y (.list ds) ∧ SeqAt.shaped d = true ∧ SeqAt.shaped (.list ds) = true ∧ Q (.bl (if neg then !(ds.any fun z => PyData.eqv z d) else ds.any fun z => PyData.eqv z d)) H
def inE (a b : D) : Option Bool := match b with
  | .lst ys => match toPy a, toPyL ys with
    | some p, some qs => if SeqAt.shaped p && SeqAt.shaped (.list qs) then some (qs.any fun z => PyData.eqv z p) else none
    | _, _ => none
  | .tup ys => match toPy a, toPyL ys with
    | some p, some qs => if SeqAt.shaped p && SeqAt.shaped (.tuple qs) then some (qs.any fun z => PyData.eqv z p) else none
    | _, _ => none
  | .str z => match a with
    | .str x => match x.cps.toList with
      | [k] => some (decide (k ∈ z.cps.toList))
      | _ => none
    | _ => none
  | _ => none
def inX (neg : Bool) (a b : D) : Option D := (inD neg a b).or ((inE a b).map fun k => .bl (if neg then !k else k))
theorem str_one {x : Str} {k : Nat} (h : x.cps.toList = [k]) : x = ⟨#[k]⟩ := by
  cases x with
  | mk a =>
    have : a = #[k] := by
      have := congrArg List.toArray h
      simpa using this
    rw [this]
theorem op2_inE {K : PySem.W.Frag} (neg : Bool) : Op2 K (fun x y H Q => rInL K neg x y H Q ∨ rInT K neg x y H Q ∨ rSign neg x y H Q) (fun a b => (inE a b).map fun k => .bl (if neg then !k else k)) := by
  refine ⟨fun T F σ G H δ v u a b d s rv ru e Q q => ?_⟩
  cases h : inE a b with
  | none => rw [h] at e; cases e
  | some k =>
    rw [h] at e
    cases e
    have q0 := q G H _ s (Same.refl _) (.bl _)
    unfold inE at h
    split at h
    · rename_i ys
      cases h1 : toPy a with
      | none => rw [h1] at h; cases h
      | some p =>
        cases h2 : toPyL ys with
        | none => rw [h1, h2] at h; cases h
        | some qs =>
          rw [h1, h2] at h
          dsimp only at h
          split at h
          · rename_i hs
            cases h
            rw [Bool.and_eq_true] at hs
            cases ru with
            | lst g1 r1 => exact .inl ⟨p, qs, dp_mono s.sub (rv.dp h1), dp_mono s.sub (Rep.dp (d := .lst ys) (.lst g1 r1) (by unfold toPy; rw [h2]; rfl)), hs.1, hs.2, q0⟩
          · cases h
    · rename_i ys
      cases h1 : toPy a with
      | none => rw [h1] at h; cases h
      | some p =>
        cases h2 : toPyL ys with
        | none => rw [h1, h2] at h; cases h
        | some qs =>
          rw [h1, h2] at h
          dsimp only at h
          split at h
          · rename_i hs
            cases h
            rw [Bool.and_eq_true] at hs
            cases ru with
            | tup g1 r1 => exact .inr (.inl ⟨p, qs, dp_mono s.sub (rv.dp h1), dp_mono s.sub (Rep.dp (d := .tup ys) (.tup g1 r1) (by unfold toPy; rw [h2]; rfl)), hs.1, hs.2, q0⟩)
          · cases h
    · split at h
      · split at h
        · rename_i hk
          cases h
          cases rv
          cases ru
          exact .inr (.inr ⟨_, _, by rw [str_one hk], rfl, q0⟩)
        · cases h
      · cases h
    · cases h
theorem In.units65 {X : Cx} (h : In c X) : X.A.units + 65 < cLine := by have := h.room.un; omega
variable {a b : Expr} {fa fb : M D} {pos : Pos}
theorem fe_inX (ha : FE c a fa) (hb : FE c b fb) (hm : behindInMarks .In b = false := by rfl) : FE c (.Compare a [.In] [b] pos) (bin2 (inX false) fa fb) :=
  fe_cmp (fun X h => by have := (op_in_seq (X := X)).or ((op_inD h.units65).or ((op_inT h.units65).or op_in_sign)); rwa [h.K] at this) ((op2_in false).or (op2_inE false)) ha hb hm
theorem fe_notinX (ha : FE c a fa) (hb : FE c b fb) (hm : behindInMarks .NotIn b = false := by rfl) : FE c (.Compare a [.NotIn] [b] pos) (bin2 (inX true) fa fb) :=
  fe_cmp (fun X h => by have := (op_notIn_seq (X := X)).or ((op_notInD h.units65).or ((op_notInT h.units65).or op_notIn_sign)); rwa [h.K] at this) ((op2_in true).or (op2_inE true)) ha hb hm
theorem ft_inX (ha : FE c a fa) (hb : FE c b fb) (hm : behindInMarks .In b = false := by rfl) : FT c (.Compare a [.In] [b] pos) (tst (bin2 (inX false) fa fb)) :=
  ft_cmp (fun X h => by have := (op_in_seq (X := X)).or ((op_inD h.units65).or ((op_inT h.units65).or op_in_sign)); rwa [h.K] at this) ((op2_in false).or (op2_inE false)) ha hb hm
theorem ft_notinX (ha : FE c a fa) (hb : FE c b fb) (hm : behindInMarks .NotIn b = false := by rfl) : FT c (.Compare a [.NotIn] [b] pos) (tst (bin2 (inX true) fa fb)) :=
  ft_cmp (fun X h => by have := (op_notIn_seq (X := X)).or ((op_notInD h.units65).or ((op_notInT h.units65).or op_notIn_sign)); rwa [h.K] at this) ((op2_in true).or (op2_inE true)) ha hb hm
/-! ### methods of texts -/
/-- a method of a text, of one argument -/
structure Mt1 (K : PySem.W.Frag) (r : V → List V → Hp → VK → Prop) (g : Str → D → Option D) : Prop where
  run : ∀ T F σ G H δ z u b d, S (K, T) F σ G H δ → Rep K G u b → g z b = some d → ∀ Q : VK, (∀ G' H' w, S (K, T) F σ G' H' δ → Same G G' → Rep K G' w d → Q w H') → r (.str z) [u] H Q
def smM (g : Str → D → Option D) (fo fe : M D) : M D := bindM fo fun o => match o with
  | .str z => bindM fe fun b => liftO (g z b)
  | _ => fun _ => none
theorem fe_smeth1 {o e : Expr} {fo fe : M D} {name : Str} {id : String} {apos cpos : Pos} {r : V → List V → Hp → VK → Prop} {g : Str → D → Option D} (slot : Slot "str" name id) (hty : typeOf (.builtin id) = pure (.type "method_descriptor")) (hm : ∀ X, In c X → MtR X id r) (hr : Mt1 c.K r g)
    (ho : FE c o fo) (he : FE c e fe)
    (hbase : ∀ env : Env, attributeBase o name env (eval o env) = eval o env := by intro _; rfl)
    (hfew : ∀ env : Env, ((backTo cpos (starEach [e] env)).all (fun x => !x.1) && (backToKw cpos (keywordEach [] env)).all (fun x => x.1.isSome)
      && decide ([e].length + ([] : List Keyword).length + (if ([] : List Keyword).isEmpty then 0 else 1) < 30)) = true := by intro _; rfl)
    (hline : (apos.endLine == cpos.line) = true := by rfl) (hst : ∀ env : Env, starEach [e] env = (false, eval e env) :: starEach [] env := by intro _; rfl) (hplain : ∀ env : Env, (backTo cpos (starEach [] env)).any (·.1) = false := by intro _; rfl) :
    FE c (.Call (.Attribute o name apos) [e] [] cpos) (smM g fo fe) := by
  obtain ⟨to, po, so⟩ := ho.ex
  obtain ⟨te, pe, se⟩ := he.ex
  refine ⟨tBM c.K "str" r to (tCons te tNil), fun X h => ?_, fun F σ G H δ rr s e Q p => ?_⟩
  · have := pe_bm (X := X) (apos := apos) (cpos := cpos) PySem.F.plainAttrs_str slot hty (hm X h) (po X h) (pa_cons (pe X h) pa_nil (hst _)) (hbase _) (hfew _) hline (hst _) (hplain _)
    rwa [h.K] at this
  · refine so.step s e p fun G1 H1 δ1 v d s1 g1 rv e1 p1 => ?_
    cases d with
    | str z =>
      cases rv
      refine ⟨rfl, se.step s1 e1 p1 fun G2 H2 δ2 u b s2 g2 ru e2 p2 => ?_⟩
      obtain ⟨d, hd, rfl⟩ := liftO_eq e2
      exact hr.run _ _ σ G2 H2 δ2 z u b d s2 ru hd Q fun G' H' w s' g' rw' => p2 G' H' w s' g' rw'
    | _ => cases e1
def lstripD (z : Str) : D → Option D
  | .str y => if z.length ≤ 1000000 then some (.str (Txt.lstripChars z y)) else none
  | _ => none
theorem mt1_lstrip {K : PySem.W.Frag} : Mt1 K (fun x xs H Q => ∃ a b, x = .str a ∧ xs = [.str b] ∧ a.length ≤ sizeLine ∧ Q (.str (Txt.lstripChars a b)) H) lstripD := by
  refine ⟨fun T F σ G H δ z u b d s ru e Q q => ?_⟩
  unfold lstripD at e
  split at e
  · split at e
    · rename_i h
      cases e
      cases ru
      exact ⟨_, _, rfl, rfl, small6 h, q G H _ s (Same.refl _) (.str _)⟩
    · cases e
  · cases e
theorem fe_lstrip {o e : Expr} {fo fe : M D} {apos cpos : Pos} (ho : FE c o fo) (he : FE c e fe)
    (hbase : ∀ env : Env, attributeBase o "lstrip" env (eval o env) = eval o env := by intro _; rfl)
    (hfew : ∀ env : Env, ((backTo cpos (starEach [e] env)).all (fun x => !x.1) && (backToKw cpos (keywordEach [] env)).all (fun x => x.1.isSome)
      && decide ([e].length + ([] : List Keyword).length + (if ([] : List Keyword).isEmpty then 0 else 1) < 30)) = true := by intro _; rfl)
    (hline : (apos.endLine == cpos.line) = true := by rfl) (hst : ∀ env : Env, starEach [e] env = (false, eval e env) :: starEach [] env := by intro _; rfl) (hplain : ∀ env : Env, (backTo cpos (starEach [] env)).any (·.1) = false := by intro _; rfl) :
    FE c (.Call (.Attribute o "lstrip" apos) [e] [] cpos) (smM lstripD fo fe) := fe_smeth1 PySem.F.slot_str_lstrip PySem.F.type_str_lstrip (fun X h => mt_lstripChars) mt1_lstrip ho he hbase hfew hline hst hplain
def sindexD (z : Str) : D → Option D
  | .str y => match Builtin.Str.occurrences z y 0 z.length 1 with
    | i :: _ => some (.int (i : Nat))
    | [] => none
  | _ => none
theorem mt1_index {K : PySem.W.Frag} : Mt1 K (fun x xs H Q => ∃ a b i rest, x = .str a ∧ xs = [.str b] ∧ Builtin.Str.occurrences a b 0 a.length 1 = i :: rest ∧ Q (.int (i : Nat)) H) sindexD := by
  refine ⟨fun T F σ G H δ z u b d s ru e Q q => ?_⟩
  unfold sindexD at e
  split at e
  · split at e
    · rename_i h
      cases e
      cases ru
      exact ⟨_, _, _, _, rfl, rfl, h, q G H _ s (Same.refl _) (.int _)⟩
    · cases e
  · cases e
theorem fe_sindex {o e : Expr} {fo fe : M D} {apos cpos : Pos} (ho : FE c o fo) (he : FE c e fe)
    (hbase : ∀ env : Env, attributeBase o "index" env (eval o env) = eval o env := by intro _; rfl)
    (hfew : ∀ env : Env, ((backTo cpos (starEach [e] env)).all (fun x => !x.1) && (backToKw cpos (keywordEach [] env)).all (fun x => x.1.isSome)
      && decide ([e].length + ([] : List Keyword).length + (if ([] : List Keyword).isEmpty then 0 else 1) < 30)) = true := by intro _; rfl)
    (hline : (apos.endLine == cpos.line) = true := by rfl) (hst : ∀ env : Env, starEach [e] env = (false, eval e env) :: starEach [] env := by intro _; rfl) (hplain : ∀ env : Env, (backTo cpos (starEach [] env)).any (·.1) = false := by intro _; rfl) :
    FE c (.Call (.Attribute o "index" apos) [e] [] cpos) (smM sindexD fo fe) := fe_smeth1 PySem.F.slot_str_index PySem.F.type_str_index (fun X h => mt_sindex) mt1_index ho he hbase hfew hline hst hplain
/-! ### str(n), int(text) -/
def strD : List D → Option D
  | [.int i] => if i.natAbs.log2 < 1920 then some (.str (toString i)) else none
  | _ => none
theorem cb_str {K : PySem.W.Frag} : Cb K (fun xs H Q => ∃ i, xs = [V.int i] ∧ i.natAbs.log2 < 1920 ∧ Q (.str (toString i)) H) strD := by
  refine ⟨fun T F σ G H δ vs ds d s rv e Q q => ?_⟩
  unfold strD at e
  split at e
  · split at e
    · rename_i h
      cases e
      cases rv with
      | cons h1 t =>
        cases t
        cases h1
        exact ⟨_, rfl, h, q G H _ s (Same.refl _) (.str _)⟩
    · cases e
  · cases e
theorem fe_str1 {p pos : Pos} {e : Expr} {f : M (List D)} (hm : c.mg "str" = none) (ha : FA c [e] f) (hg : Gb c "str" := by rfl) (he : ∀ env : Env, starEach [e] env = (false, eval e env) :: starEach [] env := by intro _; rfl) :
    FE c (.Call (.Name "str" p) [e] [] pos) (callB strD f) := fe_callTy hm (fun X h => call_str_int) cb_str ha (by decide +kernel) hg (he := he)
def intT : List D → Option D
  | [.str a] => match PySem.intText? a with
    | some n => if a.length ≤ 640 then some (.int n) else none
    | none => none
  | _ => none
def intA (ds : List D) : Option D := (FL.intD ds).or (intT ds)
theorem cb_intA {K : PySem.W.Frag} : Cb K (fun xs H Q => ((∃ i, xs = [V.int i] ∧ Q (.int i) H) ∨ ∃ k, xs = [V.bl k] ∧ Q (.int (if k then 1 else 0)) H) ∨ ∃ a n, xs = [V.str a] ∧ PySem.intText? a = some n ∧ a.length ≤ 640 ∧ Q (.int n) H) intA := by
  refine ⟨fun T F σ G H δ vs ds d s rv e Q q => ?_⟩
  unfold intA at e
  cases h : FL.intD ds with
  | some d' =>
    rw [h, Option.some_or] at e
    cases e
    exact .inl (cb_int.run T F σ G H δ vs ds _ s rv h Q q)
  | none =>
    rw [h, Option.none_or] at e
    unfold intT at e
    split at e
    · split at e
      · split at e
        · rename_i n hn hl
          cases e
          cases rv with
          | cons h1 t =>
            cases t
            cases h1
            exact .inr ⟨_, _, rfl, hn, hl, q G H _ s (Same.refl _) (.int _)⟩
        · cases e
      · cases e
    · cases e
theorem fe_intA {p pos : Pos} {e : Expr} {f : M (List D)} (hm : c.mg "int" = none) (ha : FA c [e] f) (hg : Gb c "int" := by rfl) (he : ∀ env : Env, starEach [e] env = (false, eval e env) :: starEach [] env := by intro _; rfl) :
    FE c (.Call (.Name "int" p) [e] [] pos) (callB intA f) := fe_callTy hm (fun X h => call_int1.or call_int_str) cb_intA ha (by decide +kernel) hg (he := he)
end
end FL

set_option Elab.async false
set_option linter.all false
set_option maxRecDepth 100000
set_option maxHeartbeats 2000000
/-! FL24: methods and classes, out of their texts. -/
namespace FL
open PySem PySem.Spec PyProof.Rows L2
/-- a class of the text: its address, its facts -/
structure ClsX (K : PySem.W.Frag) (mg : Str → Option Value) (n : Nat) (C : Addr) : Prop where
  at_ : ClsAt K n C
  g : mg (clsName n) = some (.ref C)
  cl : Cls K C
  na : ∀ f ∈ fldN n, NoAttr K C f
theorem ClsX.d {K : PySem.W.Frag} {mg : Str → Option Value} {n : Nat} {C : Addr} (h : ClsX K mg n C) : ClsD K mg n := ⟨C, h.at_, h.g, h.cl, h.na⟩
theorem fnM {P : Program} {w : World} {K : PySem.W.Frag} {mg : Str → Option Value} {base : Heap} {cl : Nat → Addr} {T : List (Addr × Str)} {k n : Nat} {x q : Str} {st : Stmt} {a C : Addr} {fd : FuncData} {code : Value} {qual : Str} {N ps : List Str} {f : Fo} (Fn : FunQ K x q st a fd code qual) (Sc : FnScope N ps (defScope st)) (CX : ClsX K mg n C) (hm : Meth K C x a) (hb : Binds K fd ps []) (hN : ps.length ≤ N.length)
    (body : ∀ E : XK, FS ⟨P, w, K, mg, base, N, defScope st, k, cl, E, fun _ => true, (T, false), code, qual⟩ (defBody st) f) (hnf : x ∉ fldN n := by decide +kernel) : FnM P w K mg base cl T (k + 1) n x (defF N ps.length f) :=
  ⟨⟨C, a, fd, ps, CX.at_, CX.cl, hm, hb, fnOk Fn Sc hN body⟩, hnf⟩
theorem fnC {P : Program} {w : World} {K : PySem.W.Frag} {mg : Str → Option Value} {base : Heap} {cl : Nat → Addr} {T : List (Addr × Str)} {k n nd : Nat} {q : Str} {st : Stmt} {a C : Addr} {fd : FuncData} {code : Value} {qual : Str} {N ps : List Str} {g : List D → Fo} (Fn : FunQ K "__init__" q st a fd code qual) (Sc : FnScope N ps (defScope st)) (hN : ps.length ≤ N.length) (hp : 1 ≤ ps.length) (CX : ClsX K mg n C) (M : Mk K C a) (hb : Binds K fd ps [])
    (body : ∀ E : XK, FSI ⟨P, w, K, mg, base, N, defScope st, k, cl, E, fun _ => true, (T, false), code, qual⟩ n (defBody st) g) : FnI P w K mg base cl T (k + 1) n nd [] (mkF N (ps.length - 1) g) := by
  refine ⟨C, a, fd, ps, [], [], CX.at_, CX.g, M, hb, .nil, fun _ => .nil, ?_⟩
  obtain ⟨oc, od, kV, doc, pm, an, cdv, ct, osl, e, lk, hcd, hq⟩ := Fn.ex
  exact fnI ⟨oc, od, _, _, kV, doc, pm, an, cdv, ct, osl, e, lk, hcd, hq⟩ Sc hN hp CX.at_ CX.cl CX.na body
end FL

set_option Elab.async false
set_option linter.all false
set_option maxRecDepth 100000
set_option maxHeartbeats 2000000
/-! FL25: a law's end; going on through a body. -/
namespace FL
open PySem PySem.Spec PyProof.Rows L2
theorem toldK_of {nl : List (Nat × Str)} {lt : List (Lam × M D)} {f m : M D} {L : Lam} {δ : De} {j : Nat} {d : D} (hf : f δ = some (.ok (.fn L) δ)) (hj : L.ix = j) (hl : lt[j]? = some (L, m)) (h : toldM nl m δ = some (.ok d δ)) : toldK nl lt f δ = some (.ok d δ) := by
  unfold toldK
  rw [bindM_ok hf]
  dsimp only
  rw [hj, hl]
  dsimp only
  rw [if_pos rfl]
  exact h
/-- the law's last list: each lambda is told as it is to be -/
theorem wrong_nil {i w : Nat} {nl : List (Nat × Str)} {lt : List (Lam × M D)} {δ : De} {Wr : List D} (hw : δ[w]? = some (.val (.lst Wr))) (hi : ownAt δ i = none) (hil : i < δ.length) (hl : Wr.length < 1000000)
    (h : ∀ d ∈ Wr, ∃ (L : Lam) (s : Str) (j : Nat) (m : M D), d = .tup [.fn L, .str s] ∧ L.ix = j ∧ lt[j]? = some (L, m) ∧ eqB (.str s) (.str s) = some true ∧ ∀ δ, toldM nl m δ = some (.ok (.str s) δ)) :
    lcM [i] (bName i) (tst (bin2 neD (toldK nl lt (bin2 ixD (varM i) (pureM (.int 0)))) (bin2 ixD (varM i) (pureM (.int 1))))) (varM i) (seqM (varM w)) δ = some (.ok (.lst []) δ) := by
  have := lcM_filter (vs := [i]) (bd := bName i) (tt := tst (bin2 neD (toldK nl lt (bin2 ixD (varM i) (pureM (.int 0)))) (bin2 ixD (varM i) (pureM (.int 1))))) (fe := varM i) (p := fun _ => false) (g := id) (items := seqM (varM w)) (δ := δ) (δ1 := δ) (ds := Wr)
    (by unfold seqM; rw [bindM_ok (var_of hw)]; rfl) hl (by unfold noOwn; simp [hi]) fun d hd => by
    obtain ⟨δ3, b1, rfl, b2, b3⟩ := bind1 (v := i) (d := d) (δ := δ)
    refine ⟨_, b1, b2, b3, ?_, fun h => by cases h⟩
    have v14 : (δ.set i (.val d))[i]? = some (.val d) := List.getElem?_set_self hil
    obtain ⟨L, s, j, m, rfl, h1, h2, h3, h4⟩ := h d hd
    exact ne_no (toldK_of (bin2_of (var_of v14) rfl rfl) h1 h2 (h4 _)) (bin2_of (var_of v14) rfl rfl) h3
  rw [this, List.filter_eq_nil_iff.mpr (fun a _ h => by cases h)]; rfl
theorem lst_cons {α : Type} {P : α → Prop} {a : α} {l : List α} (h : P a) (t : ∀ d ∈ l, P d) : ∀ d ∈ a :: l, P d := fun d hd => by
  rcases List.mem_cons.mp hd with e | e
  · rw [e]; exact h
  · exact t d e
theorem lst_nil {α : Type} {P : α → Prop} : ∀ d ∈ ([] : List α), P d := fun d hd => by cases hd
theorem mul_ok {i j : Int} (h : -(18446744073709551616) < i ∧ i < 18446744073709551616) : mulD (.int i) (.int j) = some (.int (i * j)) := if_pos (by unfold CMul; rw [show (2 : Int) ^ 64 = 18446744073709551616 by decide]; exact .inl h)
theorem mul_ok' {i j : Int} (h : -(18446744073709551616) < j ∧ j < 18446744073709551616) : mulD (.int i) (.int j) = some (.int (i * j)) := if_pos (by unfold CMul; rw [show (2 : Int) ^ 64 = 18446744073709551616 by decide]; exact .inr h)
/-- where a law's body leaves: what the end asks of the state -/
def NyP (P : De → Prop) (f : Fo) (δ : De) : Prop := ∃ δ', f δ = some (.nx δ') ∧ P δ'
theorem ny_seq {P : De → Prop} {f g : Fo} {δ δ' : De} (h : f δ = some (.nx δ')) (k : NyP P g δ') : NyP P (seqS f g) δ := by
  obtain ⟨x, hx, r⟩ := k
  exact ⟨x, by rw [seqS_nx h]; exact hx, r⟩
theorem ny_rw {P : De → Prop} {f g : Fo} {δ δ' : De} (h : f δ = g δ') (k : NyP P g δ') : NyP P f δ := by
  obtain ⟨x, hx, r⟩ := k
  exact ⟨x, by rw [h]; exact hx, r⟩
theorem ny_end {P : De → Prop} {f : Fo} {δ δ' : De} (h : f δ = some (.nx δ')) (k : P δ') : NyP P f δ := ⟨δ', h, k⟩
theorem un1_of {g : D → Option D} {m : M D} {x d : D} {δ δ1 : De} (h1 : m δ = some (.ok x δ1)) (h2 : g x = some d) : un1 g m δ = some (.ok d δ1) := by
  unfold un1; rw [bindM_ok h1, h2]; rfl
theorem meth0_of {n : Nat} {f : DF} {m : M D} {ds : List D} {d : D} {δ δ1 : De} (h1 : m δ = some (.ok (.ins n ds) δ1)) (h2 : f [.ins n ds] = some (.ret d)) : methM n f m (pureM []) δ = some (.ok d δ1) := by
  unfold methM
  rw [bindM_ok h1]
  dsimp only
  rw [if_pos rfl]
  show resM (f [.ins n ds]) δ1 = _
  rw [h2]; rfl
theorem meth_of {n : Nat} {f : DF} {m : M D} {a : M (List D)} {ds es : List D} {d : D} {δ δ1 δ2 : De} (h1 : m δ = some (.ok (.ins n ds) δ1)) (ha : a δ1 = some (.ok es δ2)) (h2 : f (.ins n ds :: es) = some (.ret d)) : methM n f m a δ = some (.ok d δ2) := by
  unfold methM
  rw [bindM_ok h1]
  dsimp only
  rw [if_pos rfl, bindM_ok ha, h2]; rfl
theorem tup_of {m : M (List D)} {ds : List D} {δ δ1 : De} (h : m δ = some (.ok ds δ1)) (hl : ds.length ≤ 1000000) : tupM m δ = some (.ok (.tup ds) δ1) := by
  unfold tupM; rw [bindM_ok h, if_pos hl]; rfl
theorem if_yes {m : M Bool} {f g : Fo} {δ δ1 : De} (h : m δ = some (.ok true δ1)) : thenS m (fun k => if k then f else g) δ = f δ1 := by rw [thenS_ok h]; rfl
theorem if_not {m : M Bool} {f g : Fo} {δ δ1 : De} (h : m δ = some (.ok false δ1)) : thenS m (fun k => if k then f else g) δ = g δ1 := by rw [thenS_ok h]; rfl
theorem chain_of {g h : D → D → Option D} {a b e : M D} {x y z : D} {p q : Bool} {δ δ1 δ2 δ3 : De} (h1 : a δ = some (.ok x δ1)) (h2 : b δ1 = some (.ok y δ2)) (hg : g x y = some (.bl true)) (h3 : e δ2 = some (.ok z δ3)) (hh : h y z = some (.bl q)) : tst (chainM g h a b e) δ = some (.ok q δ3) := by
  unfold tst chainM
  have e1 : (FL.bindM a fun x => FL.bindM b fun y => FL.bindM (liftO (g x y)) fun z => FL.bindM (liftO (toB z)) fun k => if k then FL.bindM e fun w => liftO (h y w) else pureM (.bl false)) δ = some (.ok (.bl q) δ3) := by
    rw [bindM_ok h1, bindM_ok h2, hg]
    show FL.bindM e (fun w => liftO (h y w)) δ2 = _
    rw [bindM_ok h3, hh]; rfl
  rw [bindM_ok e1]; rfl
end FL

set_option Elab.async false
set_option linter.all false
set_option maxRecDepth 100000
set_option maxHeartbeats 2000000
/-! FL26: more of going on. -/
namespace FL
open PySem PySem.Spec PyProof.Rows L2
theorem chain_ok {g h : D → D → Option D} {a b e : M D} {x y z : D} {q : Bool} {δ δ1 δ2 δ3 : De} (h1 : a δ = some (.ok x δ1)) (h2 : b δ1 = some (.ok y δ2)) (hg : g x y = some (.bl true)) (h3 : e δ2 = some (.ok z δ3)) (hh : h y z = some (.bl q)) : tst (chainM g h a b e) δ = some (.ok q δ3) := chain_of (p := true) h1 h2 hg h3 hh
theorem fld_of {n j : Nat} {m : M D} {ds : List D} {d : D} {δ δ1 : De} (h1 : m δ = some (.ok (.ins n ds) δ1)) (h2 : ds[j]? = some d) : un1 (fldD n j) m δ = some (.ok d δ1) := un1_of h1 (by unfold fldD; dsimp only; rw [if_pos rfl]; exact h2)
theorem call_ex {f : DF} {m : M (List D)} {ds : List D} {k : Nat} {δ δ1 : De} (h1 : m δ = some (.ok ds δ1)) (h2 : f ds = some (.ex k)) : callM f m δ = some (.ex k) := by
  unfold callM; rw [bindM_ok h1]; show resM (f ds) δ1 = _; rw [h2]; rfl
theorem thenS_ex {α : Type} {m : M α} {k : α → Fo} {δ : De} {n : Nat} (h : m δ = some (.ex n)) : thenS m k δ = some (.ex n) := by unfold thenS; rw [h]
theorem told_ok {nl : List (Nat × Str)} {m : M D} {δ δ' : De} {d : D} (h : m (hideOwn δ) = some (.ok d δ')) : toldM nl m δ = some (.ok d δ) := by unfold toldM; rw [h]
theorem roll_of {i : Nat} {f : M D} {m x y z : Int} {δ : De} (hm : 0 < m ∧ m < 1073741824) (hf : f δ = some (.ok (.int m) δ)) (h : ownAt δ i = some [.int x, .int y, .int z]) :
    ∃ r x' y' z' : Int, 0 ≤ r ∧ r < m ∧ rollM i f δ = some (.ok (.int r) (δ.set i (.own [.int x', .int y', .int z']))) := by
  refine ⟨(rollF x y z m).1, (rollF x y z m).2.1, (rollF x y z m).2.2.1, (rollF x y z m).2.2.2, rollF_lo x y z m hm.1, rollF_hi x y z m hm.1, ?_⟩
  unfold rollM
  rw [h]
  dsimp only
  rw [bindM_ok hf]
  unfold rollK
  rw [h]
  dsimp only
  rw [if_pos hm]
theorem chain_no {g h : D → D → Option D} {a b e : M D} {x y : D} {δ δ1 δ2 : De} (h1 : a δ = some (.ok x δ1)) (h2 : b δ1 = some (.ok y δ2)) (hg : g x y = some (.bl false)) : tst (chainM g h a b e) δ = some (.ok false δ2) := by
  unfold tst chainM
  have e1 : (FL.bindM a fun x => FL.bindM b fun y => FL.bindM (liftO (g x y)) fun z => FL.bindM (liftO (toB z)) fun k => if k then FL.bindM e fun w => liftO (h y w) else pureM (.bl false)) δ = some (.ok (.bl false) δ2) := by
    rw [bindM_ok h1, bindM_ok h2, hg]
    rfl
  rw [bindM_ok e1]; rfl
theorem or_2 {f g : M Bool} {δ : De} {b : Bool} (h1 : f δ = some (.ok false δ)) (h2 : g δ = some (.ok b δ)) : orT f g δ = some (.ok b δ) := by
  unfold orT
  show FL.bindM f _ δ = _
  rw [bindM_ok h1]
  exact h2
end FL

set_option Elab.async false
set_option linter.all false
set_option maxRecDepth 100000
set_option maxHeartbeats 2000000
/-! FL27: any, all of a generator expression whose parts are expressions of any kind. -/
namespace FL
open PySem PySem.Spec PyProof.Rows L2
/-- the generator expression's own scope -/
structure GenOk (N : List Str) (sc scope : Scope) (own : List (Str × Nat)) : Prop where
  kind : scope.kind = .function
  co : scope.isCoroutine = false
  cell : ∀ y ∈ scope.names, y.2 ≠ .cell
  dot : scope.names.lookup (".0" : Str) = some NameKind.local
  ix : ∀ p ∈ own, N[p.2]? = some p.1
  free : ∀ y ∈ scope.names, y.2 = .free → sc.names.lookup y.1 = some .cell ∨ sc.names.lookup y.1 = some .free
  own : ∀ y ∈ scope.names, y.2 = .local → y.1 ∈ own.map (·.1) ∨ y.1 ∉ N
def genOkB (N : List Str) (sc scope : Scope) (own : List (Str × Nat)) : Bool :=
  decide (scope.kind = .function) && !scope.isCoroutine && scope.names.all (fun y => !decide (y.2 = .cell)) && decide (scope.names.lookup (".0" : Str) = some NameKind.local) && own.all (fun p => decide (N[p.2]? = some p.1)) &&
  scope.names.all (fun y => !decide (y.2 = .free) || decide (sc.names.lookup y.1 = some .cell) || decide (sc.names.lookup y.1 = some .free)) && scope.names.all (fun y => !decide (y.2 = .local) || decide (y.1 ∈ own.map (·.1)) || !decide (y.1 ∈ N))
theorem genOk_by {N : List Str} {sc scope : Scope} {own : List (Str × Nat)} (h : genOkB N sc scope own = true) : GenOk N sc scope own := by
  unfold genOkB at h
  simp only [Bool.and_eq_true, Bool.or_eq_true, Bool.not_eq_true', decide_eq_true_eq, decide_eq_false_iff_not, List.all_eq_true] at h
  obtain ⟨⟨⟨⟨⟨⟨h1, h2⟩, h3⟩, h4⟩, h5⟩, h6⟩, h7⟩ := h
  refine ⟨h1, h2, h3, h4, h5, fun y hy e => ?_, fun y hy e => ?_⟩
  · rcases h6 y hy with (z | z) | z
    · exact absurd e z
    · exact .inl z
    · exact .inr z
  · rcases h7 y hy with (z | z) | z
    · exact absurd e z
    · exact .inl z
    · exact .inr z
def gEnv (X : Cx) (scope : Scope) (L : Addr) (code : Value) : Env := genEnv scope (cloFrom X.env.cells scope.names []) L code builtinsNs X.env
/-- the context of the generator's code, A around it -/
def gCx (X : Cx) (A : Around) (s : Shared) (H : Hp) (scope : Scope) (L : Addr) (code : Value) (fp : List Addr) (pn : List (Addr × Obj)) : Cx where
  prog := X.prog
  w := X.w
  K := X.K
  mg := X.mg
  base := X.base
  A := A
  N := X.N
  s_0 := s
  H_0 := H
  env := gEnv X scope L code
  outer := X.stack
  stack := gEnv X scope L code :: X.stack
  ex := fp
  fn := fun _ => false
  calm := true
  pn := pn
  xe := fun _ _ => False
section
variable {X : Cx} {pins : List (Addr × Obj)} {σ : L2.St} {H : Hp} {s : Shared}
theorem gen_start {A : Around} {scope : Scope} {own : List (Str × Nat)} {fp : List Addr} {pn : List (Addr × Obj)} {code : Value} {h₁ : Heap} {g : Array GenState} {tk : Nat} (I : Inv X pins σ H s) (ok : GenOk X.N X.env.scope scope own) (hN : X.N.Nodup) (hd : A.handled = none)
    (hfr : A.frames = some (gEnv X scope s.heap.objs.size code :: X.stack)) (hfp : ∀ b ∈ fp, FpOk X pins H b ∧ b < s.heap.objs.size) (hns : ∃ m, h₁.Ns s.heap.objs.size m) (kp : ∀ b o, s.heap.get? b = some o → h₁.get? b = some o) (hg : AllBare g)
    (hpn : ∀ p ∈ pn, h₁.get? p.1 = some p.2 ∧ s.heap.objs.size < p.1 ∧ ∀ v, p.2.data ≠ .cell v) :
    Inv (gCx X A s H scope s.heap.objs.size code fp pn) [] (L2.wipe σ (own.map (·.2))) H { s with heap := h₁, gens := g, toks := tk } := by
  have hfree : ∀ y ∈ scope.names, y.2 = .free → ∃ c, X.env.cells.lookup y.1 = some c := fun y hy e => by
    rcases ok.free y hy e with k | k
    · exact I.ok.has _ (.inl k)
    · exact I.ok.has _ (.inr k)
  have cm : ∀ {y c}, (cloFrom X.env.cells scope.names []).lookup y = some c → X.env.cells.lookup y = some c := fun {y c} e => by
    rcases cloFrom_mem (PySem.mem_of_lookup e) with hm | ⟨h1, h2⟩
    · cases hm
    · obtain ⟨c1, hc⟩ := hfree _ h1 rfl
      have hc : X.env.cells.lookup y = some c1 := hc
      have e2 : c = c1 := by
        rw [h2, hc] <;> rfl
      rw [e2]
      exact hc
  have look : ∀ {y}, scope.names.lookup y = some .free → ∃ c, (cloFrom X.env.cells scope.names []).lookup y = some c := fun {y} hl => by
    have hy : (y, NameKind.free) ∈ scope.names := PySem.mem_of_lookup hl
    exact mem_lookup (cloFrom_has (cells := X.env.cells) (acc := []) hy)
  have cellK : ∀ {c : Addr} {v : Option Value}, s.heap.IsCell c v → h₁.IsCell c v := fun {c v} ⟨o, ho, hd⟩ => ⟨o, kp _ _ ho, hd⟩
  have stkLt : ∀ b ∈ frs X.stack, b < s.heap.objs.size := fun b hb => by
    rcases List.mem_cons.mp (I.stkSub b hb) with e | e
    · rw [e]; exact I.lt
    · exact Nat.lt_of_not_le fun z => I.nofs z e
  refine ⟨⟨I.ok.mod, ok.kind, I.ok.glob, rfl, Nat.le_refl _, fun y z c e1 e2 => I.ok.inj y z c (cm e1) (cm e2), fun y hy => ?_, fun y c z _ => ?_, fun _ => hd, hfr, .inr ⟨rfl, rfl⟩, fun b hb => ⟨?_, fun y c e z => ?_⟩, I.bs, Nat.le_trans I.ok.bsz I.sz, fun b o e hb => ?_,
      fun b hb z => ?_, I.stack, I.stkFree⟩,
    rfl, hg, Un.kept kp, ⟨Classical.choose hns, Classical.choose_spec hns, fun i y v e1 e2 e3 => ?_⟩, fun y c e => ?_, I.hok.fresh (Nat.le_refl _), fun y c e => ?_, fun p hp => ?_, I.hok.kept kp, by rw [wipe_length]; exact I.len⟩
  · have hy : scope.names.lookup y = some .cell ∨ scope.names.lookup y = some .free := hy
    rcases hy with hy | hy
    · exact absurd rfl (ok.cell _ (PySem.mem_of_lookup hy))
    · exact look hy
  · have z : false = true := z
    cases z
  · exact Nat.ne_of_lt (hfp b hb).2
  · exact (hfp b hb).1.2.2.2.2.1 y c (cm e) z
  · rcases (hfp b hb).1.2.2.2.1 with z | z
    · exact I.ok.noex b o e z
    · exact absurd (Nat.lt_of_lt_of_le (Heap.lt_size e) (Nat.le_trans I.ok.bsz z)) (Nat.lt_irrefl _)
  · rcases List.mem_cons.mp (I.stkSub b z) with z | z
    · exact (hfp b hb).1.2.1 z
    · exact (hfp b hb).1.2.2.1 z
  · obtain ⟨e2, hne⟩ := wipe_some e2
    have e3 : Vis scope y := e3
    rcases e3 with k | k | k
    · rcases ok.own _ (PySem.mem_of_lookup k) rfl with e' | e'
      · obtain ⟨p, hp, hpy⟩ := List.mem_map.mp e'
        have e4 := ok.ix p hp
        have : p.1 = y := hpy
        rw [this] at e4
        exact absurd (List.mem_map.mpr ⟨p, hp, nodup_ix hN e4 e1⟩) hne
      · exact absurd (List.mem_of_getElem? e1) e'
    · exact absurd rfl (ok.cell _ (PySem.mem_of_lookup k))
    · obtain ⟨m, hn, hl⟩ := I.loc
      have hvis : Vis X.env.scope y := (ok.free _ (PySem.mem_of_lookup k) rfl).elim (fun k => .inr (.inl k)) (fun k => .inr (.inr k))
      obtain ⟨w', r, q⟩ := hl i y v e1 e2 hvis
      obtain ⟨c2, h2⟩ := look k
      refine ⟨w', r, .inr ⟨.inr k, c2, h2, ?_⟩⟩
      have c1 := cm h2
      rcases q with ⟨k', _⟩ | ⟨_, c3, e', z⟩
      · have k' : X.env.scope.names.lookup y = some .local := k'
        rcases ok.free _ (PySem.mem_of_lookup k) rfl with k2 | k2 <;> rw [show X.env.scope.names.lookup y = _ from k2] at k' <;> cases k'
      · rw [c1] at e'
        cases e'
        exact cellK z
  · obtain ⟨w', z⟩ := I.cell y c (cm e)
    exact ⟨w', cellK z⟩
  · exact I.freeC y c (cm e)
  · rw [List.append_nil] at hp
    obtain ⟨p1, p2, p3⟩ := hpn p hp
    exact ⟨p1, I.hok.fresh (Nat.le_of_lt p2), Nat.ne_of_gt p2, fun z => absurd (stkLt _ z) (Nat.not_lt.mpr (Nat.le_of_lt p2)), p3⟩
end
/-! ### the walk -/
def RAny (Y : Cx) (σ : L2.St) (Qe : Hp → Prop) : GenEnd := fun n s₀ r s1 => ((r = .ok (.ret .none) ∨ r = .ok .next) ∧ ∃ H', Inv Y [] σ H' s1 ∧ Qe H') ∨ ∃ e, r = .error e ∧ False
def YAny (Y : Cx) (an : Bool) (Qa : Hp → Prop) : Protocol := fun n s₀ v s kap => ∃ (bb : Bool) (σ' : L2.St) (H' : Hp), v = .bool bb ∧ Inv Y [] σ' H' s ∧ (bb = an → Qa H') ∧ (bb ≠ an → ∀ s', s'.heap = s.heap → s'.os = s.os → AllBare s'.gens → kap (.send .none) s')
theorem inv_same {Y : Cx} {pins : List (Addr × Obj)} {σ : L2.St} {H : Hp} {s s' : Shared} (I : Inv Y pins σ H s) (hh : ∀ b o, s.heap.get? b = some o → s'.heap.get? b = some o) (ho : s'.os = s.os) (hb : AllBare s'.gens) : Inv Y pins σ H s' :=
  I.call' (ch := []) ho (Un.kept hh) (I.hok.kept hh) hb fun b z => by simp at z
theorem gen_loop {Y : Cx} {A : Around} {elt tg iter : Expr} {ifs : List Expr} {scope : Scope} {pos : Pos} {it : Addr} {fp : List Addr} {tn : Nat → Heap → Prop} {J : It} {gt : TG} {tt : TT} {te : TE} {σ : L2.St} {vs : List Nat} {Qa Qe : Hp → Prop} {an : Bool} {W : Nat → Nat → Hp → Prop}
    (hx : Y.xe = fun _ _ => False) (hc : Y.calm = true) (hA : A.over (.compLoop (.GeneratorExp elt [⟨tg, iter, ifs, 0⟩] scope pos) 0 (.ref it) .none Y.env) [] = Y.A) (hco : Y.env.scope.isCoroutine = false) (hw : L2.wipe σ vs = σ)
    (T : Turn Y.prog Y.w Y.K tg J fp it tn) (stat : ∀ {σ' : L2.St} {H' : Hp} {s' : Shared}, Inv Y [] σ' H' s' → (∀ b ∈ fp, H' b = none) → ∀ b ∈ fp, FpOk Y [] H' b) (pg : PG Y tg gt) (pt : PTs Y ifs tt) (pe : PE Y elt te)
    (turn : ∀ i m H, W i m H → (J.stop i H ∧ Qe H) ∨ (J.go i H ∧ ∃ Nx : Hp → Prop, (∀ H', Nx H' → ∃ m', m' < m ∧ W (i + 1) m' H') ∧ ∀ x H', J.yld i H x H' → gt x σ H' fun σ2 H2 => L2.wipe σ2 vs = σ ∧ tt σ2 H2 fun b H3 =>
      if b = true then te σ2 H3 fun y H4 => ∃ bb, y = .bl bb ∧ (bb = an → Qa H4) ∧ (bb ≠ an → Nx H4) else Nx H3)) :
    ∀ (m n : Nat) (s₀ s : Shared) (i : Nat) (H : Hp), m < n → W i m H → Inv Y [] σ H s → tn i s.heap → (∀ b ∈ fp, H b = none) →
      Seg (model Y.prog Y.w) A (RAny Y σ Qe) (YAny Y an Qa) n s₀ (.compLoop (.GeneratorExp elt [⟨tg, iter, ifs, 0⟩] scope pos) 0 (.ref it) .none Y.env)
        ((model Y.prog Y.w).den (.compLoop (.GeneratorExp elt [⟨tg, iter, ifs, 0⟩] scope pos) 0 (.ref it) .none Y.env)) [] s := by
  intro m
  induction m using Nat.strongRecOn with
  | ind m ih =>
  intro n s₀ s i H hmn hW I st nf
  show Seg _ A _ _ _ s₀ _ ((compTurn (.GeneratorExp elt [⟨tg, iter, ifs, 0⟩] scope pos) 0 (.ref it) .none Y.env).onRaise (leaving Y.env)) [] s
  rw [compTurn_gen, Sem.onRaise_eq_wrap]
  refine seg_bind_wrap (wpAny_standAt ?_)
  rcases turn i m H hW with ⟨stop, qq⟩ | ⟨go, Nx, hNx, step⟩
  · refine seg_bind_wrap ?_
    rw [hA]
    have td := T.done Y rfl rfl rfl hc i [] s _ H (fun _ _ => False) I (stat I nf) st stop
    refine thnF td fun r s6 ⟨hr, I6⟩ => ?_
    subst hr
    exact seg_end (.ok .next) (.inl ⟨.inr rfl, H, I6, qq⟩)
  · refine seg_bind_wrap ?_
    rw [hA]
    have ti := T.item Y rfl rfl rfl hc i [] s _ H (fun _ _ => False) I (stat I nf) st go
    refine thnF ti fun r s6 ⟨u, hr, h6⟩ => ?_
    subst hr
    refine seg_bind_wrap ?_
    rw [hA]
    refine thnF h6 fun _ s7 ⟨x, H7, I7, r7, y7, st7, n7⟩ => ?_
    have I7' := I7.pinned (stat I7 n7) (T.obj _ _ st7)
    refine seg_bind_wrap ?_
    rw [hA]
    have hpg := pg.run _ s7 _ H7 x u _ I7' r7 (step x H7 y7)
    rw [hx] at hpg
    refine thnF hpg fun _ s8 ⟨σ8, H8, I8, hw8, q8⟩ => ?_
    refine seg_bind_wrap ?_
    rw [hA]
    have hpt := pt.run _ s8 σ8 H8 _ I8 q8
    rw [hx] at hpt
    refine thnF hpt fun b s9 ⟨H9, I9, q9⟩ => ?_
    have fin : ∀ {s' : Shared} {H' : Hp}, Inv Y ([] ++ pinsAt fp s7.heap) σ8 H' s' → Nx H' → ∃ m', m' < m ∧ Inv Y [] σ H' s' ∧ tn (i + 1) s'.heap ∧ (∀ b ∈ fp, H' b = none) ∧ W (i + 1) m' H' := fun {s' H'} I' nx => by
      obtain ⟨m', hm, w'⟩ := hNx H' nx
      have pin' : ∀ b ∈ fp, ∀ o, s7.heap.get? b = some o → s'.heap.get? b = some o ∧ H' b = none := fun b hb o e =>
        let z := I'.pin (b, o) (List.mem_append_right _ (List.mem_append_right _ (mem_pinsAt hb e)))
        ⟨z.1, z.2.1⟩
      have hl : σ.length = σ8.length := by rw [← hw8, wipe_length]
      refine ⟨m', hm, (I'.unpinned (pins := [])).weak hl (fun j v e => ?_), T.keep _ _ _ st7 fun b hb o e => (pin' b hb o e).1, fun b hb => ?_, w'⟩
      · rw [← hw8] at e
        exact (wipe_some e).1
      · obtain ⟨o, e, _⟩ := T.obj _ _ st7 b hb
        exact (pin' b hb o e).2
    cases b with
    | false =>
      simp only [Bool.false_eq_true, if_false] at q9 ⊢
      obtain ⟨m', hm, Ia, sta, nfa, wa⟩ := fin I9 q9
      exact seg_again rfl (ih m' hm n s₀ _ _ _ (by omega) wa Ia sta nfa)
    | true =>
      simp only [if_true] at q9 ⊢
      have hy : ∀ v, yieldOut Y.env v = yieldValue v := fun v => by simp only [yieldOut, hco, Bool.false_eq_true, if_false]
      simp only [hy]
      rw [Sem.bind_eq_wrap', Sem.bind_eq_wrap', Sem.wrap_wrap, Sem.wrap_wrap]
      refine seg_wrap ?_
      rw [hA]
      have hpe := pe.run _ s9 σ8 H9 _ I9 q9
      rw [hx] at hpe
      refine thnF hpe fun z s10 ⟨yv, H10, I10, r10, bb, eb, qa, qn⟩ => ?_
      subst eb
      obtain rfl : z = Value.bool bb := r10
      obtain ⟨n', rfl⟩ : ∃ n', n = n' + 1 := ⟨n - 1, by omega⟩
      refine seg_at (seg_yield rfl rfl rfl ⟨bb, σ8, H10, rfl, I10.unpinned (pins := []), qa, fun hne s'' hh ho hb => ?_⟩)
      obtain ⟨m', hm, Ia, sta, nfa, wa⟩ := fin I10 (qn hne)
      exact seg_again rfl (ih m' hm n' s'' s'' _ _ (by omega) wa (inv_same Ia (fun b o e => by rw [hh]; exact e) ho hb) (by rw [hh]; exact sta) nfa)
/-- the code's start -/
theorem gen_begin {Y : Cx} {A : Around} {elt tg iter : Expr} {ifs : List Expr} {scope : Scope} {pos : Pos} {it : Addr} {fp : List Addr} {tn : Nat → Heap → Prop} {J : It} {R : GenEnd} {P : Protocol} {n : Nat} {s₀ s : Shared}
    (T : Turn Y.prog Y.w Y.K tg J fp it tn) (st : tn 0 s.heap)
    (loop : Seg (model Y.prog Y.w) A R P n s₀ (.compLoop (.GeneratorExp elt [⟨tg, iter, ifs, 0⟩] scope pos) 0 (.ref it) .none Y.env)
        ((model Y.prog Y.w).den (.compLoop (.GeneratorExp elt [⟨tg, iter, ifs, 0⟩] scope pos) 0 (.ref it) .none Y.env)) [] s) :
    Seg (model Y.prog Y.w) A R P n s₀ (.compStart (.GeneratorExp elt [⟨tg, iter, ifs, 0⟩] scope pos) 0 (.ref it) .none Y.env)
      ((model Y.prog Y.w).den (.compStart (.GeneratorExp elt [⟨tg, iter, ifs, 0⟩] scope pos) 0 (.ref it) .none Y.env)) [] s := by
  show Seg _ A _ _ _ s₀ _ ((compStart (.GeneratorExp elt [⟨tg, iter, ifs, 0⟩] scope pos) 0 (.ref it) .none Y.env).onRaise (leaving Y.env)) [] s
  unfold compStart
  rw [Sem.onRaise_eq_wrap]
  show Seg _ A _ _ _ s₀ _ ((ask >>= _).wrap _ _ _ _) [] s
  refine seg_bind_wrap (wpAny_askSetting ?_)
  split
  · exact seg_again rfl loop
  · first
      | exact seg_bind_wrap (wpAny_rule (seg_bind_wrap (wpAny_standAt (seg_bind_wrap (T.self _ 0 s _ _ st (seg_again rfl loop))))))
      | (refine seg_bind_wrap (wpAny_rule ?_); show Seg _ A _ _ _ s₀ _ ((standAt iter.pos >>= _).wrap _ _ _ _) [] s; exact seg_bind_wrap (wpAny_standAt (seg_bind_wrap (T.self _ 0 s _ _ st (seg_again rfl loop)))))
/-! ### the consumer -/
def loopId : Bool → String
  | true => "any.loop"
  | false => "all.loop"
theorem any_loop {Y : Cx} {A : Around} {R : Result → Shared → Prop} {a : Addr} {g : Nat} {σ : L2.St} {Qa Qe : Hp → Prop} (an : Bool) (hh : A.handled = none) (hd : A.depth < recursionLimit) (hgen : ∀ (pins : List (Addr × Obj)) σ' H' s', Inv Y pins σ' H' s' → s'.heap.IsGen a g)
    (hend : ∀ s' H', Inv Y [] σ H' s' → Qe H' → R (.ok (.ret (.bool (!an)))) s') (hfound : ∀ s' σ' H', Inv Y [] σ' H' s' → Qa H' → R (.ok (.ret (.bool an))) s') :
    ∀ (n : Nat) (s : Shared), s.heap.IsGen a g → s.heap.NoLimit →
      (∃ gs, s.gens[g]? = some gs ∧ gs.Goes (model Y.prog Y.w) A.in1.in1 (RAny Y σ Qe) (YAny Y an Qa) n (.send .none) (s.setGen g .running)) →
      codeAny (model Y.prog Y.w) A (.builtin (loopId an) ⟨[.ref a], []⟩) R s := by
  have goes : ∀ {gs : GenState} {B : Around} {n : Nat} {r : Resume} {s : Shared}, gs.Goes (model Y.prog Y.w) B (RAny Y σ Qe) (YAny Y an Qa) n r s →
      gs.Goes (model Y.prog Y.w) B (fun n s₀ r s1 => ((r = .ok (.ret .none) ∨ r = .ok .next) ∧ ∃ H', Inv Y [] σ H' s1 ∧ Qe H') ∨ ∃ e, r = .error e ∧ False) (YAny Y an Qa) n r s := fun h => h
  have bareR : ∀ {s₁ : Shared} {gs' : GenState}, gs'.bare = true → AllBare s₁.gens → AllBare (s₁.setGen g gs').gens := fun h1 h2 => allBare_setGen h2 h1
  intro n
  induction n with
  | zero =>
    intro s hg hl ⟨gs, hgs, hgo⟩
    cases an with
    | true =>
      show codeAny _ A (.builtin "any.loop" ⟨[.ref a], []⟩) R s
      refine codeAny_builtin F.entry_any_loop ?_
      rw [Around.under_plainId F.plain_any_loop _]
      show wpAny _ A.in1 (pyNext (.ref a) >>= _) _ _ s
      refine wpAny_bind (next_genG (A := A.in1) hh hl hd hg hgs (goes hgo) (fun v s₁ gs' hbare hv => ?_) (fun s₁ hp h' hk => ?_) fun e s₁ he => he.elim)
      · obtain ⟨bb, σ', H', rfl, I', qa, qn⟩ := hv
        refine wpAny_bind (wpAny_holding (wpAny_truthy_bool ?_))
        refine wpAny_bind (wpAny_letGo ?_)
        cases bb with
        | true =>
          simp only [if_true]
          exact wpAny_bind (wpAny_rule (wpAny_pure (hfound _ σ' H' (inv_same I' (fun _ _ e => e) rfl (bareR hbare I'.bare)) (qa rfl))))
        | false => exact False.elim (qn (by simp) s₁ rfl rfl I'.bare)
      · obtain ⟨H', I', q⟩ := hp
        exact wpAny_bind (wpAny_rule (wpAny_pure (hend _ H' (inv_same I' hk rfl (bareR rfl I'.bare)) q)))
    | false =>
      show codeAny _ A (.builtin "all.loop" ⟨[.ref a], []⟩) R s
      refine codeAny_builtin F.entry_all_loop ?_
      rw [Around.under_plainId F.plain_all_loop _]
      show wpAny _ A.in1 (pyNext (.ref a) >>= _) _ _ s
      refine wpAny_bind (next_genG (A := A.in1) hh hl hd hg hgs (goes hgo) (fun v s₁ gs' hbare hv => ?_) (fun s₁ hp h' hk => ?_) fun e s₁ he => he.elim)
      · obtain ⟨bb, σ', H', rfl, I', qa, qn⟩ := hv
        refine wpAny_bind (wpAny_holding (wpAny_truthy_bool ?_))
        refine wpAny_bind (wpAny_letGo ?_)
        cases bb with
        | false =>
          simp only [Bool.false_eq_true, if_false]
          exact wpAny_bind (wpAny_rule (wpAny_pure (hfound _ σ' H' (inv_same I' (fun _ _ e => e) rfl (bareR hbare I'.bare)) (qa rfl))))
        | true => exact False.elim (qn (by simp) s₁ rfl rfl I'.bare)
      · obtain ⟨H', I', q⟩ := hp
        exact wpAny_bind (wpAny_rule (wpAny_pure (hend _ H' (inv_same I' hk rfl (bareR rfl I'.bare)) q)))
  | succ n ih =>
    intro s hg hl ⟨gs, hgs, hgo⟩
    have hgl : g < s.gens.size := (Array.getElem?_eq_some_iff.mp hgs).1
    have again_ : ∀ {s₁ : Shared} {gs' : GenState} {σ' : L2.St} {H' : Hp}, g + 1 ≤ (s₁.setGen g gs').gens.size → Inv Y [] σ' H' s₁ → gs'.bare = true →
        (∀ s', s'.heap = s₁.heap → s'.os = s₁.os → AllBare s'.gens → gs'.Goes (model Y.prog Y.w) A.in1.in1 (RAny Y σ Qe) (YAny Y an Qa) n (.send .none) s') →
        codeAny (model Y.prog Y.w) A (.builtin (loopId an) ⟨[.ref a], []⟩) R (s₁.setGen g gs') := fun {s₁ gs' σ' H'} hsz I' hbare hk => by
      have hsz1 : g < s₁.gens.size := by
        have q : (s₁.setGen g gs').gens.size = s₁.gens.size := GenW.setGen_size _ _ _
        omega
      exact ih _ (hgen [] σ' H' s₁ I') I'.nolimit ⟨gs', setGen_at hsz1, hk _ rfl rfl (bareR rfl (bareR hbare I'.bare))⟩
    cases an with
    | true =>
      show codeAny _ A (.builtin "any.loop" ⟨[.ref a], []⟩) R s
      refine codeAny_builtin F.entry_any_loop ?_
      rw [Around.under_plainId F.plain_any_loop _]
      show wpAny _ A.in1 (pyNext (.ref a) >>= _) _ _ s
      refine wpAny_bind (GenW.wpAny_gsz (n := g + 1) hgl (next_genG (A := A.in1) hh hl hd hg hgs (goes hgo) (fun v s₁ gs' hbare hv => ?_) (fun s₁ hp h' hk => ?_) fun e s₁ he => he.elim))
      · intro hsz
        obtain ⟨bb, σ', H', rfl, I', qa, qn⟩ := hv
        refine wpAny_bind (wpAny_holding (wpAny_truthy_bool ?_))
        refine wpAny_bind (wpAny_letGo ?_)
        cases bb with
        | true =>
          simp only [if_true]
          exact wpAny_bind (wpAny_rule (wpAny_pure (hfound _ σ' H' (inv_same I' (fun _ _ e => e) rfl (bareR hbare I'.bare)) (qa rfl))))
        | false =>
          simp only [Bool.false_eq_true, if_false]
          exact wpAny_pure ⟨plainId_quiet F.plain_any_loop _, again_ hsz I' hbare fun s' h1 h2 h3 => qn (by simp) s' h1 h2 h3⟩
      · intro hsz
        obtain ⟨H', I', q⟩ := hp
        exact wpAny_bind (wpAny_rule (wpAny_pure (hend _ H' (inv_same I' hk rfl (bareR rfl I'.bare)) q)))
    | false =>
      show codeAny _ A (.builtin "all.loop" ⟨[.ref a], []⟩) R s
      refine codeAny_builtin F.entry_all_loop ?_
      rw [Around.under_plainId F.plain_all_loop _]
      show wpAny _ A.in1 (pyNext (.ref a) >>= _) _ _ s
      refine wpAny_bind (GenW.wpAny_gsz (n := g + 1) hgl (next_genG (A := A.in1) hh hl hd hg hgs (goes hgo) (fun v s₁ gs' hbare hv => ?_) (fun s₁ hp h' hk => ?_) fun e s₁ he => he.elim))
      · intro hsz
        obtain ⟨bb, σ', H', rfl, I', qa, qn⟩ := hv
        refine wpAny_bind (wpAny_holding (wpAny_truthy_bool ?_))
        refine wpAny_bind (wpAny_letGo ?_)
        cases bb with
        | false =>
          simp only [Bool.false_eq_true, if_false]
          exact wpAny_bind (wpAny_rule (wpAny_pure (hfound _ σ' H' (inv_same I' (fun _ _ e => e) rfl (bareR hbare I'.bare)) (qa rfl))))
        | true =>
          simp only [if_true]
          exact wpAny_pure ⟨plainId_quiet F.plain_all_loop _, again_ hsz I' hbare fun s' h1 h2 h3 => qn (by simp) s' h1 h2 h3⟩
      · intro hsz
        obtain ⟨H', I', q⟩ := hp
        exact wpAny_bind (wpAny_rule (wpAny_pure (hend _ H' (inv_same I' hk rfl (bareR rfl I'.bare)) q)))
theorem over_gen {A : Around} {elt tg iter : Expr} {ifs : List Expr} {scope : Scope} {pos : Pos} {it acc : Value} {env : Env} : A.over (.compLoop (.GeneratorExp elt [⟨tg, iter, ifs, 0⟩] scope pos) 0 it acc env) [] = A.deeper env := by
  first
    | rfl
    | (obtain ⟨hd, d, fr, gs, u⟩ := A; simp [Around.over, Around.deeper, marksOver, frameCount, unitsOf, envsOf, guardsOf, pushEnvs, pushGuards, Code.envs, Code.env?, Code.isFrame, Code.guards, Code.isGuard, Code.weight, Code.frames, Code.isCreation, Code.isCaller, Code.cUnits])
/-- any(elt for tg in iter if ..), all(..): the def's table may grow, then the walk -/
def tAny (an : Bool) (T : List (Addr × Str)) (wi : TI) (g : TG) (tt : TT) (te : TE) (vs : List Nat) : TE := fun σ H Q => wi σ H fun J H1 => LamX.Tabs T H1 ∧ ∀ H2, LamX.ExtN H1 H2 → LamX.Tabs T H2 → ∃ W : Nat → Nat → Hp → Prop, (∃ m, W 0 m H2) ∧ ∀ i m H, W i m H →
  (J.stop i H ∧ Q (.bl (!an)) H) ∨ (J.go i H ∧ ∃ Nx : Hp → Prop, (∀ H', Nx H' → ∃ m', m' < m ∧ W (i + 1) m' H') ∧ ∀ x H', J.yld i H x H' → g x (L2.wipe σ vs) H' fun σ2 H2 => L2.wipe σ2 vs = L2.wipe σ vs ∧ tt σ2 H2 fun b H3 =>
    if b = true then te σ2 H3 fun y H4 => ∃ bb, y = .bl bb ∧ (bb = an → Q (.bl an) H4) ∧ (bb ≠ an → Nx H4) else Nx H3)
theorem wipe_wipe (σ : L2.St) (vs : List Nat) : L2.wipe (L2.wipe σ vs) vs = L2.wipe σ vs := wipe_agr (is := []) ⟨rfl, fun _ _ => rfl⟩ fun _ z => nomatch z
section
variable {X : Cx} {pins : List (Addr × Obj)} {σ : L2.St} {H : Hp} {s : Shared}
theorem gen_core {an : Bool} {T : List (Addr × Str)} {C P : Addr} {elt tg iter : Expr} {ifs : List Expr} {scope : Scope} {own : List (Str × Nat)} {gpos : Pos} {wi : TI} {g : TG} {tt : TT} {te : TE} {k : Nat} {Q : VK} {Q' : Value → Shared → Prop}
    (hr : Room (k + 1) X.A) (B : LamX.TabB X.base X.mg C P) (hco : X.env.code = .ref C) (inT : (P, X.env.qual ++ "<genexpr>") ∈ T) (one : ∀ p ∈ T, p.1 = P → p.2 = X.env.qual ++ "<genexpr>") (ok : GenOk X.N X.env.scope scope own) (hN : X.N.Nodup)
    (hi : PI X tg iter wi) (hg : ∀ A s H L code fp pn, Room k A → PG (gCx X A s H scope L code fp pn) tg g) (ht : ∀ A s H L code fp pn, Room k A → PTs (gCx X A s H scope L code fp pn) ifs tt) (he : ∀ A s H L code fp pn, Room k A → PE (gCx X A s H scope L code fp pn) elt te)
    (hs : ∀ v, genFold iter X.env v = pure v) (I : Inv X pins σ H s) (h : tAny an T wi g tt te (own.map (·.2)) σ H Q)
    (hQ : ∀ (A : Around) (H3 : Hp) (s3 : Shared) (code : Value) (fp : List Addr) (pn : List (Addr × Obj)) (a : Addr) (gn n : Nat) (s5 : Shared), s5.heap.IsGen a gn → s5.heap.NoLimit →
      (∃ gs, s5.gens[gn]? = some gs ∧ gs.Goes (model X.prog X.w) X.A.in1.in1 (RAny (gCx X A s3 H3 scope s3.heap.objs.size code fp pn) (L2.wipe σ (own.map (·.2))) (Q (.bl (!an)))) (YAny (gCx X A s3 H3 scope s3.heap.objs.size code fp pn) an (Q (.bl an))) n (.send .none) (s5.setGen gn .running)) →
      (∀ (pins : List (Addr × Obj)) σ' H' s', Inv (gCx X A s3 H3 scope s3.heap.objs.size code fp pn) pins σ' H' s' → s'.heap.IsGen a gn) → (∀ σ' H' s', Inv (gCx X A s3 H3 scope s3.heap.objs.size code fp pn) [] σ' H' s' → Inv X pins σ H' s') → Q' (.ref a) s5) :
    wpAny (model X.prog X.w) X.A (eval (.GeneratorExp elt [⟨tg, iter, ifs, 0⟩] scope gpos) X.env) Q' X.xe s := by
  have hfree : ∀ y ∈ scope.names, y.2 = .free → ∃ c, X.env.cells.lookup y.1 = some c := fun y hy e => by
    rcases ok.free y hy e with k | k
    · exact I.ok.has _ (.inl k)
    · exact I.ok.has _ (.inr k)
  refine wpAny_GeneratorExp_make ok.co (closure_ok hfree) ok.cell ok.dot ok.kind (by have := hr.dp; omega) ?_ hs
  refine thn (hi.run pins s σ H _ I h) fun xv s1 hx => thn hx fun itv s2 h2 => ?_
  obtain ⟨it, fp, tn, J, H2, e, I2, T2, st2, f2, tabs, q⟩ := h2
  subst e
  refine ⟨I2.nolimit, ?_⟩
  obtain ⟨ps, tP, tri, am⟩ := tabs _ inT
  have sP := I2.hok P _ tP
  have cd : PySem.W.CodeHd s2.heap C P := B.code.keeps I2.bk
  have fplt : ∀ b ∈ fp, b < s2.heap.objs.size := fun b hb => by
    obtain ⟨o, e, _⟩ := T2.obj _ _ st2 b hb
    exact Heap.lt_size e
  -- from the code object on
  have main : ∀ (code : Value) (H3 : Hp) (s3 : Shared), Inv X pins σ H3 s3 → LamX.ExtN H2 H3 → LamX.Tabs T H3 → (∀ b ∈ fp, FpOk X pins H3 b ∧ b < s3.heap.objs.size) → tn 0 s3.heap →
      wpAny (model X.prog X.w) X.A (builtinsFor X.env.globals X.env.builtins) (fun bi s₄ =>
        ∀ h', h'.Ns s₄.heap.objs.size (fun y => if y = ".0" then some (.ref it) else none) → Heap.SameBut s₄.heap.objs.size (s₄.heap.push { cls := .type "frame", data := .dict #[] }) h' →
          Q' (.ref h'.objs.size) { s₄ with
            gens := s₄.gens.push (.fresh (.compStart (.GeneratorExp elt [⟨tg, iter, ifs, 0⟩] scope gpos) 0 (.ref it) .none (genEnv scope (cloFrom X.env.cells scope.names []) s₄.heap.objs.size code bi X.env))),
            toks := s₄.toks + 1 + 1 + 1,
            heap := h'.push { cls := .type "generator", data := .fields #[.int s₄.gens.size 0, .str "<genexpr>" (s₄.toks + 1), .str (X.env.qual ++ "<genexpr>") (s₄.toks + 1 + 1)] } }) X.xe s3 := by
    intro code H3 s3 I3 eN tb3 f3 st3
    obtain ⟨bm, ob, e1, e2, e3, e4, e5, e6, e7, e8⟩ := B.bm.keeps I3.bk
    refine wpAny_builtinsFor (m := X.mg) (by rw [I3.ok.glob]; exact I3.mod.glob.keeps I3.bk) e1 e2 e5 e6 e7 e8 ?_
    intro h' hns sb
    obtain ⟨W, ⟨m0, w0⟩, turn⟩ := q H3 eN tb3
    -- the generator's object
    have sz' : h'.objs.size = s3.heap.objs.size + 1 := by rw [sb.1, Heap.size_push]
    have kp' : ∀ b o, s3.heap.get? b = some o → h'.get? b = some o := fun b o e => (sb.2 b (Nat.ne_of_lt (Heap.lt_size e))).trans (Heap.get?_push_of_some _ e)
    have kgen : ∀ (go : Obj), ∀ b o, s3.heap.get? b = some o → (h'.push go).get? b = some o := fun go b o e => Heap.get?_push_of_some _ (kp' b o e)
    have core : ∀ (go : Obj) (nm qn : Value) (tk : Nat), go.cls = .type "generator" → go.data = .fields #[.int s3.gens.size 0, nm, qn] → go.slots = #[] → (∀ h : Heap, (h.push go).get? h.objs.size = some go) →
        Q' (.ref h'.objs.size) { s3 with gens := s3.gens.push (.fresh (.compStart (.GeneratorExp elt [⟨tg, iter, ifs, 0⟩] scope gpos) 0 (.ref it) .none (gEnv X scope s3.heap.objs.size code))), toks := tk, heap := h'.push go } := by
      intro go nm qn tk hgc hgd0 hgs hgp
      have hgen : ∀ h : Heap, h.get? h'.objs.size = some go → h.IsGen h'.objs.size s3.gens.size := fun h e => ⟨go, nm, qn, e, hgc, hgd0, hgs⟩
      have hpushed : (h'.push go).get? h'.objs.size = some go := hgp _
      have bare5 : AllBare (s3.gens.push (.fresh (.compStart (.GeneratorExp elt [⟨tg, iter, ifs, 0⟩] scope gpos) 0 (.ref it) .none (gEnv X scope s3.heap.objs.size code)))) := AllBare.push I3.bare rfl
      have hpn : ∀ p ∈ [(h'.objs.size, go)], (h'.push go).get? p.1 = some p.2 ∧ s3.heap.objs.size < p.1 ∧ ∀ v, p.2.data ≠ .cell v := fun p hp => by
        rw [List.mem_singleton.mp hp]
        exact ⟨hpushed, by show s3.heap.objs.size < h'.objs.size; omega, fun v z => by rw [hgd0] at z; cases z⟩
      have hroom : Room k (X.A.in1.in1.deeper (gEnv X scope s3.heap.objs.size code)) := ⟨hr.hd, by have := hr.dp; show X.A.depth + 1 + 3 * k + 5 < _; omega, by have := hr.un; show X.A.units + 1 + 1 + 3 + 16 * k + 200 < _; omega⟩
      have I5 := gen_start (A := X.A.in1.in1.deeper (gEnv X scope s3.heap.objs.size code)) (code := code) (fp := fp) (pn := [(h'.objs.size, go)]) (h₁ := h'.push go) (tk := tk) I3 ok hN hr.hd (Around.frames_deeper I3.ok.frames) f3
        ⟨_, hns.at' fun o e => Heap.get?_push_of_some _ e⟩ (kgen go) bare5 hpn
      refine hQ (X.A.in1.in1.deeper (gEnv X scope s3.heap.objs.size code)) H3 s3 code fp [(h'.objs.size, go)] h'.objs.size s3.gens.size (m0 + 1) _ (hgen _ hpushed) I5.nolimit ⟨_, Array.getElem?_push_size .., rfl, ?_⟩ (fun pins' σ' H' s' J' => ?_) (fun σ' H' s' J' => ?_)
      · have I6 := inv_same I5 (s' := Shared.setGen { s3 with gens := s3.gens.push (.fresh (.compStart (.GeneratorExp elt [⟨tg, iter, ifs, 0⟩] scope gpos) 0 (.ref it) .none (gEnv X scope s3.heap.objs.size code))), toks := tk, heap := h'.push go } s3.gens.size .running) (fun b o e => e) rfl (allBare_setGen bare5 rfl)
        have st6 : tn 0 (h'.push go) := T2.keep _ _ _ st3 fun b _ o e => kgen go b o e
        refine gen_begin (Y := gCx X (X.A.in1.in1.deeper (gEnv X scope s3.heap.objs.size code)) s3 H3 scope s3.heap.objs.size code fp [(h'.objs.size, go)]) (J := J) (fp := fp) (tn := tn) T2 st6 ?_
        refine gen_loop (Y := gCx X (X.A.in1.in1.deeper (gEnv X scope s3.heap.objs.size code)) s3 H3 scope s3.heap.objs.size code fp [(h'.objs.size, go)]) (J := J) (fp := fp) (tn := tn) (W := W) (vs := own.map (·.2)) rfl rfl over_gen ok.co (wipe_wipe _ _) T2
          (fun {σ' H' s'} J' hn b hb => ⟨hn b hb, (J'.ok.exf b hb).1, J'.ok.exfs b hb, .inl hb, fun x c e => (J'.ok.exf b hb).2 x c e, fun p hp z => ?_⟩)
          (hg _ _ _ _ _ _ _ hroom) (ht _ _ _ _ _ _ _ hroom) (he _ _ _ _ _ _ _ hroom) turn m0 (m0 + 1) _ _ 0 H3 (Nat.lt_succ_self _) w0 I6 st6 fun b hb => (f3 b hb).1.1
        have hp : p ∈ [(h'.objs.size, go)] ++ [] := hp
        rw [List.append_nil] at hp
        rw [List.mem_singleton.mp hp] at z
        have z : h'.objs.size = b := z
        exact absurd (Nat.lt_of_le_of_lt (Nat.le_of_eq z) (f3 b hb).2) (by rw [sz']; exact Nat.not_lt.mpr (Nat.le_succ _))
      · exact hgen _ (J'.pin (h'.objs.size, go) (List.mem_append_left _ (List.mem_singleton.mpr rfl))).1
      · exact I3.call' (ch := fp) J'.os J'.base J'.hok J'.bare fun b hb => ⟨(f3 b hb).1.2.2.2.1, (f3 b hb).1.2.1, (f3 b hb).1.2.2.2.2.1, (f3 b hb).1.2.2.2.2.2⟩
    exact core _ _ _ _ rfl rfl rfl fun h => Heap.get?_push_size _ rfl
  cases hf : codeAmong gpos ps.toList with
  | some cv =>
    refine wpAny_genexprCode_hit hco (cd.code sP tri) hf ?_
    exact main cv H2 s2 I2 (.refl _) tabs (fun b hb => ⟨f2 b hb, fplt b hb⟩) st2
  | none =>
    refine wpAny_genexprCodeX hco (cd.code sP tri) (cd.tab sP) hf fun c' h' tk ext ge lt _ rec tb _ => ?_
    obtain ⟨c2, oc, vs, t, e2, r1, r2, r3⟩ := rec
    cases e2
    have nC : H2 c' = none := I2.hok.fresh ge
    have J3 := LamX.inv_table (t' := tk) (more := #[rawInt gpos.line, rawInt gpos.col, .ref c']) I2 tP ext tb.2 ge ⟨oc, vs, t, r1, r2, r3⟩
    have grow : LamX.ExtN H2 (upd (upd H2 P (.tbl (ps ++ #[rawInt gpos.line, rawInt gpos.col, .ref c']))) c' (LamX.CodeO c' (X.env.qual ++ "<genexpr>"))) := fun b o e n => by
      have nP : b ≠ P := fun z => by subst z; rw [tP] at e; exact n ps (Option.some.inj e).symm
      rw [upd_ne (ne_of_none e nC), upd_ne nP, e]
    have nbP : ∀ b ∈ fp, b ≠ P := fun b hb z => by
      have := (f2 b hb).1
      rw [z, tP] at this
      cases this
    refine main _ _ _ J3 grow (fun p hp => ?_) (fun b hb => ⟨⟨?_, (f2 b hb).2⟩, Nat.lt_of_lt_of_le (fplt b hb) (Nat.le_trans ge (Nat.le_of_lt lt))⟩) (T2.keep _ _ _ st2 fun b hb o e => ext b o (nbP b hb) e)
    · have toL : (ps ++ #[rawInt gpos.line, rawInt gpos.col, .ref c']).toList = ps.toList ++ [rawInt gpos.line, rawInt gpos.col, .ref c'] := by simp
      by_cases hb : p.1 = P
      · have pc : P ≠ c' := ne_of_none tP nC
        rw [hb, one p hp hb]
        refine ⟨ps ++ #[rawInt gpos.line, rawInt gpos.col, .ref c'], by rw [upd_ne pc, upd_same], ?_, fun p' cv e => ?_⟩
        · rw [toL]; exact PySem.TriplesOk_snoc _ _ _ _ tri
        · rw [toL] at e
          rcases LamX.among_app _ tri e with z | z
          · obtain ⟨d, d1, d2⟩ := am p' cv z
            exact ⟨d, d1, grow _ _ d2 LamX.codeO_ne⟩
          · exact ⟨c', z, upd_same⟩
      · obtain ⟨qs, a1, a2, a3⟩ := tabs p hp
        refine ⟨qs, by rw [upd_ne (ne_of_none a1 nC), upd_ne hb]; exact a1, a2, fun p' cv e => ?_⟩
        obtain ⟨d, d1, d2⟩ := a3 p' cv e
        exact ⟨d, d1, grow _ _ d2 LamX.codeO_ne⟩
    · rw [upd_ne (Nat.ne_of_lt (Nat.lt_of_lt_of_le (fplt b hb) ge)), upd_ne (nbP b hb)]
      exact (f2 b hb).1
theorem pe_any {T : List (Addr × Str)} {C P : Addr} {elt tg iter : Expr} {ifs : List Expr} {scope : Scope} {own : List (Str × Nat)} {gpos p pos : Pos} {wi : TI} {g : TG} {tt : TT} {te : TE} {k : Nat}
    (hr : Room (k + 1) X.A) (hgl : Gl X "any") (hm : X.mg "any" = none) (B : LamX.TabB X.base X.mg C P) (hco : X.env.code = .ref C) (inT : (P, X.env.qual ++ "<genexpr>") ∈ T) (one : ∀ p ∈ T, p.1 = P → p.2 = X.env.qual ++ "<genexpr>") (ok : GenOk X.N X.env.scope scope own) (hN : X.N.Nodup)
    (hi : PI X tg iter wi) (hg : ∀ A s H L code fp pn, Room k A → PG (gCx X A s H scope L code fp pn) tg g) (ht : ∀ A s H L code fp pn, Room k A → PTs (gCx X A s H scope L code fp pn) ifs tt) (he : ∀ A s H L code fp pn, Room k A → PE (gCx X A s H scope L code fp pn) elt te)
    (hs : ∀ v, genFold iter X.env v = pure v)
    (hst : starEach [.GeneratorExp elt [⟨tg, iter, ifs, 0⟩] scope gpos] X.env = (false, eval (.GeneratorExp elt [⟨tg, iter, ifs, 0⟩] scope gpos) X.env) :: starEach [] X.env := by rfl) :
    PE X (.Call (.Name "any" p) [.GeneratorExp elt [⟨tg, iter, ifs, 0⟩] scope gpos] [] pos) (tAny true T wi g tt te (own.map (·.2))) := by
  refine ⟨fun pins s σ H Q I h => ?_⟩
  refine wpAny_Call_Name_kw (ld_blt I hgl hm boot_any ?_)
  refine PyProof.Rows.callWith_builtin1 ?_ hst (by rfl)
  rw [hst]
  show wpAny _ _ (spliced ((false, eval (.GeneratorExp elt [⟨tg, iter, ifs, 0⟩] scope gpos) X.env) :: backTo pos (starEach [] X.env))) _ _ s
  refine Calls.spliced_cons (gen_core hr B hco inT one ok hN hi hg ht he hs I h fun A H3 s3 code fp pn a gn n s5 hgn hl hgo hgen back => ?_)
  refine Calls.spliced_nil ?_
  refine call_function_tree F.kind_any F.plain_any F.entry_any (F.args_any1 _) ?_
  unfold Builtin.«any»
  refine wpAny_bind (m := oneArg "any" _) (wpAny_pure ?_)
  refine wpAny_bind (wpAny_pyIter_gen hgn ?_)
  exact wpAny_pure ⟨plainId_quiet F.plain_any_loop _, any_loop true hr.hd hr.depth hgen (fun s' H' J q => ⟨.bl false, H', back _ _ _ J, rfl, q⟩) (fun s' σ' H' J q => ⟨.bl true, H', back _ _ _ J, rfl, q⟩) n s5 hgn hl hgo⟩
theorem pe_all {T : List (Addr × Str)} {C P : Addr} {elt tg iter : Expr} {ifs : List Expr} {scope : Scope} {own : List (Str × Nat)} {gpos p pos : Pos} {wi : TI} {g : TG} {tt : TT} {te : TE} {k : Nat}
    (hr : Room (k + 1) X.A) (hgl : Gl X "all") (hm : X.mg "all" = none) (B : LamX.TabB X.base X.mg C P) (hco : X.env.code = .ref C) (inT : (P, X.env.qual ++ "<genexpr>") ∈ T) (one : ∀ p ∈ T, p.1 = P → p.2 = X.env.qual ++ "<genexpr>") (ok : GenOk X.N X.env.scope scope own) (hN : X.N.Nodup)
    (hi : PI X tg iter wi) (hg : ∀ A s H L code fp pn, Room k A → PG (gCx X A s H scope L code fp pn) tg g) (ht : ∀ A s H L code fp pn, Room k A → PTs (gCx X A s H scope L code fp pn) ifs tt) (he : ∀ A s H L code fp pn, Room k A → PE (gCx X A s H scope L code fp pn) elt te)
    (hs : ∀ v, genFold iter X.env v = pure v)
    (hst : starEach [.GeneratorExp elt [⟨tg, iter, ifs, 0⟩] scope gpos] X.env = (false, eval (.GeneratorExp elt [⟨tg, iter, ifs, 0⟩] scope gpos) X.env) :: starEach [] X.env := by rfl) :
    PE X (.Call (.Name "all" p) [.GeneratorExp elt [⟨tg, iter, ifs, 0⟩] scope gpos] [] pos) (tAny false T wi g tt te (own.map (·.2))) := by
  refine ⟨fun pins s σ H Q I h => ?_⟩
  refine wpAny_Call_Name_kw (ld_blt I hgl hm boot_all ?_)
  refine PyProof.Rows.callWith_builtin1 ?_ hst (by rfl)
  rw [hst]
  show wpAny _ _ (spliced ((false, eval (.GeneratorExp elt [⟨tg, iter, ifs, 0⟩] scope gpos) X.env) :: backTo pos (starEach [] X.env))) _ _ s
  refine Calls.spliced_cons (gen_core hr B hco inT one ok hN hi hg ht he hs I h fun A H3 s3 code fp pn a gn n s5 hgn hl hgo hgen back => ?_)
  refine Calls.spliced_nil ?_
  refine call_function_tree F.kind_all F.plain_all F.entry_all (F.args_all1 _) ?_
  unfold Builtin.«all»
  refine wpAny_bind (m := oneArg "all" _) (wpAny_pure ?_)
  refine wpAny_bind (wpAny_pyIter_gen hgn ?_)
  exact wpAny_pure ⟨plainId_quiet F.plain_all_loop _, any_loop false hr.hd hr.depth hgen (fun s' H' J q => ⟨.bl true, H', back _ _ _ J, rfl, q⟩) (fun s' σ' H' J q => ⟨.bl false, H', back _ _ _ J, rfl, q⟩) n s5 hgn hl hgo⟩
end
end FL

set_option Elab.async false
set_option linter.all false
set_option maxRecDepth 100000
set_option maxHeartbeats 2000000
/-! FL28: any, all by values. -/
namespace FL
open PySem PySem.Spec PyProof.Rows L2
/-- an is what ends the walk (any: true, all: false) -/
def anyD (an : Bool) (vs : List Nat) (bd : D → De → Option De) (tt : M Bool) (fe : M D) : List D → M Bool
  | [], δ => some (.ok (!an) δ)
  | x :: r, δ => if noOwn δ vs then match bd x (wipeD δ vs) with
    | none => none
    | some δ1 => match tt δ1 with
      | some (.ok true δ2) => match fe δ2 with
        | some (.ok (.bl b) δ3) => if b = an then some (.ok an (restD δ δ3 vs)) else anyD an vs bd tt fe r (restD δ δ3 vs)
        | _ => none
      | some (.ok false δ2) => anyD an vs bd tt fe r (restD δ δ2 vs)
      | _ => none
    else none
def anyM (an : Bool) (vs : List Nat) (bd : D → De → Option De) (tt : M Bool) (fe : M D) (items : M (List D)) : M D := bindM items fun ds => bindM (anyD an vs bd tt fe ds) fun b => pureM (.bl b)
theorem sp_any {K : PySem.W.Frag} {T : Tb} {cl : Nat → Addr} {E : XK} {wi : TI} {g : TG} {t : TT} {te : TE} {items : M (List D)} {is vs : List Nat} {bd : D → De → Option De} {tt : M Bool} {fe : M D} (an : Bool)
    (si : Sp2 (K, T) cl E (Walks K) wi items) (sg : ∀ F σ G H δ v d δ', S (K, T) F σ G H δ → Rep K G v d → bd d δ = some δ' → ∀ Q, (∀ σ', S (K, T) F σ' G H δ' → Agr is σ σ' → Q σ' H) → g v σ H Q)
    (st : Sp2 (K, T) cl (fun _ _ _ => False) RepB t tt) (se : Sp2 (K, T) cl (fun _ _ _ => False) (Rep K) te fe) (his : ∀ i ∈ is, i ∈ vs) :
    Sp2 (K, T) cl E (Rep K) (tAny an T.1 wi g t te vs) (anyM an vs bd tt fe items) := by
  intro F σ G H δ r s e Q p
  refine si.step s e p fun G1 H1 δ1 J ds s1 g1 W e1 p1 => ?_
  refine ⟨s1.tab, fun H2 eN T2 => ?_⟩
  have s1 := s1.extN eN T2
  cases hlc : anyD an vs bd tt fe ds δ1 with
  | none => unfold bindM at e1; rw [hlc] at e1; cases e1
  | some rr =>
    cases rr with
    | ex k =>
      exfalso
      have : ∀ (ds : List FL.D) δ k, anyD an vs bd tt fe ds δ ≠ some (.ex k) := by
        intro ds
        induction ds with
        | nil => intro δ k h; cases h
        | cons x r ih =>
          intro δ k h
          rw [anyD] at h
          repeat' split at h
          all_goals first | cases h | exact ih _ _ h
      exact this _ _ _ hlc
    | ok bA δf =>
      rw [bindM_ok hlc] at e1
      cases e1
      refine ⟨fun i m H => m = ds.length - i ∧ i ≤ ds.length ∧ ∃ G2 δ2, Same G1 G2 ∧ S (K, T) F σ G2 H δ2 ∧ anyD an vs bd tt fe (ds.drop i) δ2 = some (.ok bA δf), ⟨ds.length, by simp, Nat.zero_le _, G1, δ1, Same.refl _, s1, hlc⟩, ?_⟩
      rintro i m H2 ⟨rfl, hi, G2, δ2, g2, s2, e2⟩
      by_cases hl : i < ds.length
      · have hd : ds[i]? = some ds[i] := List.getElem?_eq_getElem hl
        rw [List.drop_eq_getElem_cons hl, anyD] at e2
        split at e2
        · rename_i hno
          refine .inr ⟨W.go _ _ σ G2 H2 δ2 i g2 s2 hl, fun H' => ∃ G5 δ5, Same G1 G5 ∧ S (K, T) F σ G5 H' δ5 ∧ anyD an vs bd tt fe (ds.drop (i + 1)) δ5 = some (.ok bA δf),
            fun H' z => ⟨ds.length - (i + 1), by omega, rfl, hl, z⟩, fun x H3 hy => ?_⟩
          obtain ⟨G3, s3, g3, rx⟩ := W.yld _ _ (L2.wipe σ vs) G2 H2 (wipeD δ2 vs) i x H3 _ g2 (s2.wipes vs) hy hd
          cases hbd : bd ds[i] (wipeD δ2 vs) with
          | none => rw [hbd] at e2; cases e2
          | some δ3 =>
            rw [hbd] at e2
            dsimp only at e2
            refine sg _ (L2.wipe σ vs) G3 H3 _ x _ δ3 s3 rx hbd _ fun σ3 s4 ag => ⟨wipe_agr ag his, ?_⟩
            have g23 : Same G2 G3 := g3
            have agr3 : ∀ j, j ∉ vs → σ3[j]? = σ[j]? := fun j hj => by
              rw [ag.2 j fun z => hj (his j z), wipe_get, if_neg hj]
            have len3 : σ3.length = σ.length := ag.1.trans (wipe_length _ _)
            cases ht : tt δ3 with
            | none => rw [ht] at e2; cases e2
            | some rt =>
              rw [ht] at e2
              cases rt with
              | ex k => cases e2
              | ok b δ4 =>
                refine st _ σ3 G3 H3 δ3 _ s4 ht _ fun G4 H4 b' s5 g4 rb => ?_
                have eb : b' = b := rb
                subst eb
                cases b' with
                | false =>
                  rw [if_neg Bool.false_ne_true]
                  dsimp only at e2
                  exact ⟨G4, _, g2.trans (g23.trans g4), s5.unblock s2 (g23.trans g4) agr3 len3 hno, e2⟩
                | true =>
                  rw [if_pos rfl]
                  dsimp only at e2
                  cases hf : fe δ4 with
                  | none => rw [hf] at e2; cases e2
                  | some rf =>
                    rw [hf] at e2
                    cases rf with
                    | ex k => cases e2
                    | ok y δ5 =>
                      cases y with
                      | bl bb =>
                        dsimp only at e2
                        refine se _ σ3 G4 H4 δ4 _ s5 hf _ fun G5 H5 v s6 g5 ry => ?_
                        cases ry
                        have g25 : Same G2 G5 := g23.trans (g4.trans g5)
                        refine ⟨bb, rfl, fun hb => ?_, fun hb => ?_⟩
                        · rw [if_pos hb] at e2
                          cases e2
                          exact p1 G5 H5 _ (s6.unblock s2 g25 agr3 len3 hno) (g2.trans g25) (.bl _)
                        · rw [if_neg hb] at e2
                          exact ⟨G5, _, g2.trans g25, s6.unblock s2 g25 agr3 len3 hno, e2⟩
                      | _ => cases e2
        · cases e2
      · have ei : i = ds.length := by omega
        subst ei
        rw [List.drop_length] at e2
        cases e2
        exact .inl ⟨W.stop _ _ σ G2 H2 _ _ g2 s2 (Nat.le_refl _), p1 G2 H2 _ s2 g2 (.bl _)⟩
def gSC (c : SC) (scope : Scope) (k : Nat) : SC := { c with sc := scope, k := k, E := fun _ _ _ => False, st := fun x => !(x == "") && (scope.names.lookup x == some .local), code := .none, qual := "" }
theorem in_gen {c : SC} {X : Cx} {scope : Scope} {k : Nat} (h : In c X) (A : Around) (s : Shared) (H : Hp) (L : Addr) (code : Value) (fp : List Addr) (pn : List (Addr × Obj)) (hr : Room k A) : In (gSC c scope k) (gCx X A s H scope L code fp pn) where
  P := h.P
  w := h.w
  K := h.K
  mg := h.mg
  base := h.base
  N := h.N
  sc := rfl
  calm := rfl
  room := hr
  tk := fun z => absurd z (by simp [gSC])
  pa := fun σ => passAt L2.takes0 σ
  fn := fun x hx => .inr (beq_iff_eq.mp (by have hx : (!(x == "") && (scope.names.lookup x == some NameKind.local)) = true := hx; rw [Bool.and_eq_true] at hx; exact hx.2))
  po := fun _ => PassesOwn.never
  code := .inl rfl
/-- where generators are made: the maker's code object and its table -/
structure GenD (c : SC) (C P : Addr) : Prop where
  code : c.code = .ref C
  T : (P, c.qual ++ "<genexpr>") ∈ c.T.1
  one : ∀ p ∈ c.T.1, p.1 = P → p.2 = c.qual ++ "<genexpr>"
  tb : LamX.TabB c.base c.mg C P
section
variable {c : SC}
theorem fe_any (k : Nat) {C P : Addr} {elt tg iter : Expr} {ifs : List Expr} {scope : Scope} (own : List (Str × Nat)) {gpos p pos : Pos} {items : M (List D)} {is : List Nat} {bd : D → De → Option De} {tt : M Bool} {fe : M D} (Gd : GenD c C P) (nd : c.N.Nodup) (hm : c.mg "any" = none) (hi : FI c tg iter items)
    (ok : genOkB c.N c.sc scope own = true) (hg : FG (gSC c scope k) tg is bd) (ht : FTs (gSC c scope k) ifs tt) (he : FE (gSC c scope k) elt fe) (his : ∀ i ∈ is, i ∈ own.map (·.2)) (hk : Nat.ble (k + 1) c.k = true := by rfl) (hgl : Gb c "any" := by rfl)
    (hs : ∀ (env : Env) v, genFold iter env v = pure v := by intro _ _; rfl) (hst : ∀ env : Env, starEach [.GeneratorExp elt [⟨tg, iter, ifs, 0⟩] scope gpos] env = (false, eval (.GeneratorExp elt [⟨tg, iter, ifs, 0⟩] scope gpos) env) :: starEach [] env := by intro _; rfl) :
    FE c (.Call (.Name "any" p) [.GeneratorExp elt [⟨tg, iter, ifs, 0⟩] scope gpos] [] pos) (anyM true (own.map (·.2)) bd tt fe items) := by
  obtain ⟨wi, pi, si⟩ := hi.ex
  obtain ⟨g, pg, sg⟩ := hg.ex
  obtain ⟨t, pt, st⟩ := ht.ex
  obtain ⟨te, pe, se⟩ := he.ex
  refine ⟨tAny true c.T.1 wi g t te (own.map (·.2)), fun X h => ?_, sp_any true si sg st se his⟩
  obtain ⟨hc1, hc2⟩ := h.code.resolve_left (by rw [Gd.code]; simp)
  exact pe_any (k := k) (C := C) (P := P) (h.room.mono (Nat.le_of_ble_eq_true hk)) (show X.env.scope.names.lookup _ = _ by rw [h.sc]; exact hgl) (by rw [h.mg]; exact hm) (by rw [h.base, h.mg]; exact Gd.tb) (by rw [hc1]; exact Gd.code) (by rw [hc2]; exact Gd.T) (fun x hx hp => by rw [hc2]; exact Gd.one x hx hp)
    (genOk_by (by rw [h.N, h.sc]; exact ok)) (by rw [h.N]; exact nd) (pi X h) (fun A s H L code fp pn hr => pg _ (in_gen h A s H L code fp pn hr)) (fun A s H L code fp pn hr => pt _ (in_gen h A s H L code fp pn hr)) (fun A s H L code fp pn hr => pe _ (in_gen h A s H L code fp pn hr)) (hs _) (hst _)
theorem fe_all (k : Nat) {C P : Addr} {elt tg iter : Expr} {ifs : List Expr} {scope : Scope} (own : List (Str × Nat)) {gpos p pos : Pos} {items : M (List D)} {is : List Nat} {bd : D → De → Option De} {tt : M Bool} {fe : M D} (Gd : GenD c C P) (nd : c.N.Nodup) (hm : c.mg "all" = none) (hi : FI c tg iter items)
    (ok : genOkB c.N c.sc scope own = true) (hg : FG (gSC c scope k) tg is bd) (ht : FTs (gSC c scope k) ifs tt) (he : FE (gSC c scope k) elt fe) (his : ∀ i ∈ is, i ∈ own.map (·.2)) (hk : Nat.ble (k + 1) c.k = true := by rfl) (hgl : Gb c "all" := by rfl)
    (hs : ∀ (env : Env) v, genFold iter env v = pure v := by intro _ _; rfl) (hst : ∀ env : Env, starEach [.GeneratorExp elt [⟨tg, iter, ifs, 0⟩] scope gpos] env = (false, eval (.GeneratorExp elt [⟨tg, iter, ifs, 0⟩] scope gpos) env) :: starEach [] env := by intro _; rfl) :
    FE c (.Call (.Name "all" p) [.GeneratorExp elt [⟨tg, iter, ifs, 0⟩] scope gpos] [] pos) (anyM false (own.map (·.2)) bd tt fe items) := by
  obtain ⟨wi, pi, si⟩ := hi.ex
  obtain ⟨g, pg, sg⟩ := hg.ex
  obtain ⟨t, pt, st⟩ := ht.ex
  obtain ⟨te, pe, se⟩ := he.ex
  refine ⟨tAny false c.T.1 wi g t te (own.map (·.2)), fun X h => ?_, sp_any false si sg st se his⟩
  obtain ⟨hc1, hc2⟩ := h.code.resolve_left (by rw [Gd.code]; simp)
  exact pe_all (k := k) (C := C) (P := P) (h.room.mono (Nat.le_of_ble_eq_true hk)) (show X.env.scope.names.lookup _ = _ by rw [h.sc]; exact hgl) (by rw [h.mg]; exact hm) (by rw [h.base, h.mg]; exact Gd.tb) (by rw [hc1]; exact Gd.code) (by rw [hc2]; exact Gd.T) (fun x hx hp => by rw [hc2]; exact Gd.one x hx hp)
    (genOk_by (by rw [h.N, h.sc]; exact ok)) (by rw [h.N]; exact nd) (pi X h) (fun A s H L code fp pn hr => pg _ (in_gen h A s H L code fp pn hr)) (fun A s H L code fp pn hr => pt _ (in_gen h A s H L code fp pn hr)) (fun A s H L code fp pn hr => pe _ (in_gen h A s H L code fp pn hr)) (hs _) (hst _)
end
end FL

set_option Elab.async false
set_option linter.all false
set_option maxRecDepth 100000
set_option maxHeartbeats 2000000
/-! FL29: the tables, told by words. -/
namespace FL
open PySem PySem.Spec PyProof.Rows L2
def oneB (T : List (Addr × Str)) (P : Addr) (q : Str) : Bool := T.all fun p => !(p.1 == P) || (p.2 == q)
theorem one_by {T : List (Addr × Str)} {P : Addr} {q : Str} (h : oneB T P q = true) : ∀ p ∈ T, p.1 = P → p.2 = q := fun p hp e => by
  have := List.all_eq_true.mp h p hp
  simp only [Bool.or_eq_true, Bool.not_eq_true'] at this
  rcases this with z | z
  · rw [e] at z; simp at z
  · exact beq_iff_eq.mp z
/-- the table of a code object -/
def tabOf (K : PySem.W.Frag) (C : Addr) : Option Addr := match K.lookup C with
  | some ⟨.type "code", _, .fields vs, _⟩ => (match (vs[11]? : Option Value) with | some (.ref P') => some P' | _ => none)
  | _ => none
theorem funq_mk {K : PySem.W.Frag} {x q : Str} {st : Stmt} {a C : Addr} {oc kV doc pm ct : Value} {od an : Option Addr} {sl : Array (Option Value)} (l : K.lookup a = some ⟨oc, od, .func (PySem.W.fnOf x q (defArgs st) (defBody st) (defScope st) .none kV doc pm an (.ref C) ct), sl⟩) (c : PySem.W.codeIn K (.ref C) q = true) (k : PySem.W.keepIn K (.ref a) = true) :
    FunQ K x q st a (PySem.W.fnOf x q (defArgs st) (defBody st) (defScope st) .none kV doc pm an (.ref C) ct) (.ref C) (q ++ ".<locals>.") :=
  ⟨⟨oc, od, kV, doc, pm, an, .ref C, ct, sl, rfl, l, c, .inr ⟨rfl, rfl⟩⟩, k⟩
end FL

set_option Elab.async false
set_option linter.all false
set_option maxRecDepth 100000
set_option maxHeartbeats 2000000
/-! FL30: tuple(zip(a, b)), a and b lists or tuples. -/
namespace FL
open PySem PySem.Spec PyProof.Rows L2
theorem nolen_zip : typeLookup (.type "zip") "__len__" = pure none := by rw [typeLookup_type, builtinLookup_eq_fast]; kernel_rfl
theorem nohint_zip : typeLookup (.type "zip") "__length_hint__" = pure none := by rw [typeLookup_type, builtinLookup_eq_fast]; kernel_rfl
section
variable {prog : Program} {w : World} {A : Around} {E : Value → Shared → Prop} {s : Shared} {z TI TO T i1 i2 : Addr} {f : Bool} {oT : Obj} {fp1 fp2 : List Addr} {n1 n2 i : Nat} {P1 P2 : Nat → Value → Prop} {St1 St2 : Nat → Heap → Prop}
theorem zipH_next_item {Q : Value → Shared → Prop} (S : ZipSep2 z TI TO i1 i2 fp1 fp2) (D1 : Draws prog w A i1 fp1 n1 P1 St1) (D2 : Draws prog w A i2 fp2 n2 P2 St2)
    (hz : IsZipHeld s.heap z TI TO T f) (hT : s.heap.get? T = some oT) (hTI : IsTupOf2 s.heap TI (.ref i1) (.ref i2)) (st1 : St1 i s.heap) (st2 : St2 i s.heap) (hlt1 : i < n1) (hlt2 : i < n2)
    (hQ : ∀ x1 x2 h' tk, P1 i x1 → P2 i x2 → IsZipHeld h' z TI TO T true → St1 (i + 1) h' → St2 (i + 1) h' → IsTupOf2 h' s.heap.objs.size x1 x2 → h'.objs.size = s.heap.objs.size + 1 →
      (∀ c o, c ≠ z → c ≠ i1 → c ≠ i2 → s.heap.get? c = some o → h'.get? c = some o) → Q (.ref s.heap.objs.size) { s with heap := h', toks := tk }) :
    wpAny (model prog w) A (Builtin.«zip.__next__» ⟨[.ref z], []⟩) (fun fin s' => ∃ v, fin = .done (.ret v) ∧ Q v s') E s := by
  obtain ⟨hp, g, d, tk0, os⟩ := s
  show wpAny _ _ (field (.ref z) 2 >>= _) _ _ _
  refine wpAny_bind (wpAny_field hz rfl (x := .bool false) rfl ?_)
  show wpAny _ _ (field (.ref z) 3 >>= _) _ _ _
  refine wpAny_bind (wpAny_field hz rfl (x := .ref TI) rfl ?_)
  refine wpAny_bind (wpAny_seqItems hTI rfl ?_)
  show wpAny _ _ (Builtin.SmallTypes.ownedTupleIsFree (.ref z) >>= _) _ _ _
  refine wpAny_bind (wpAny_tupleHeld_zip hz hT fun g0 hz0 hs0 => ?_)
  replace hs0 : Heap.SameBut z hp g0 := hs0
  simp only [Bool.false_eq_true, if_false]
  refine wpAny_bind ?_
  rw [← Array.forIn_toList]
  simp only [List.forIn_cons, List.forIn_nil]
  refine wpAny_bind (wpAny_bind (wpAny_holding ?_))
  show wpAny _ _ (Builtin.SmallTypes.nextOf (.ref i1) >>= _) _ _ ⟨g0, g, d, tk0, os⟩
  refine wpAny_bind (D1.item i _ _ _ hlt1 (D1.over st1 hs0 S.zf1) fun x1 p1 tk1 hx1 sn1 hp1 => wpAny_pure ?_)
  replace hp1 : Heap.SameBut i1 g0 p1 := hp1
  refine wpAny_pure ?_
  refine wpAny_bind (wpAny_bind (wpAny_holding ?_))
  show wpAny _ _ (Builtin.SmallTypes.nextOf (.ref i2) >>= _) _ _ ⟨p1, g, d, tk1, os⟩
  refine wpAny_bind (D2.item i _ _ _ hlt2 (D2.over (D2.over st2 hs0 S.zf2) hp1 S.sep1_2) fun x2 p2 tk2 hx2 sn2 hp2 => wpAny_pure ?_)
  replace hp2 : Heap.SameBut i2 p1 p2 := hp2
  refine wpAny_pure (wpAny_pure ?_)
  show wpAny _ _ (newTuple [x1, x2] >>= _) _ _ ⟨p2, g, d, tk2, os⟩
  refine wpAny_bind (wpAny_newTuple ?_)
  have hsz : p2.objs.size = hp.objs.size := by rw [hp2.1, hp1.1, hs0.1]
  have hz₃ : IsZipHeld p2 z TI TO T true := hp2.extBut _ _ S.zi2 (hp1.extBut _ _ S.zi1 hz0)
  have hk : ∀ c o, c ≠ z → c ≠ i1 → c ≠ i2 → hp.get? c = some o → p2.get? c = some o := fun c o c1 c2 c3 e => hp2.extBut _ _ c3 (hp1.extBut _ _ c2 (hs0.extBut _ _ c1 e))
  have hj1 : St1 (i + 1) p2 := D1.over sn1 hp2 S.sep2_1
  refine wpAny_pure ⟨_, rfl, ?_⟩
  show Q (.ref p2.objs.size) ⟨p2.push { cls := .type "tuple", data := .seq #[x1, x2] }, g, d, tk2, os⟩
  have hp : IsTupOf2 (p2.push { cls := .type "tuple", data := .seq #[x1, x2] }) p2.objs.size x1 x2 := Heap.get?_push_size _ rfl
  have hz4 : (p2.push { cls := .type "tuple", data := .seq #[x1, x2] }).objs.size = p2.objs.size + 1 := Heap.size_push ..
  rw [hsz] at hp hz4 ⊢
  exact hQ x1 x2 _ tk2 hx1 hx2 (Heap.get?_push_of_some _ hz₃) (D1.frame _ _ _ hj1 fun b hb o e => Heap.get?_push_of_some _ e) (D2.frame _ _ _ sn2 fun b hb o e => Heap.get?_push_of_some _ e) hp hz4 fun c o c1 c2 c3 e => Heap.get?_push_of_some _ (hk c o c1 c2 c3 e)
theorem zipH_next_end {Q : Fin → Shared → Prop} (S : ZipSep2 z TI TO i1 i2 fp1 fp2) (D1 : Draws prog w A i1 fp1 n1 P1 St1) (D2 : Draws prog w A i2 fp2 n2 P2 St2)
    (hz : IsZipHeld s.heap z TI TO T f) (hT : s.heap.get? T = some oT) (hTI : IsTupOf2 s.heap TI (.ref i1) (.ref i2)) (st1 : St1 i s.heap) (st2 : St2 i s.heap) (hle1 : i ≤ n1) (hle2 : i ≤ n2) (hend : i = n1 ∨ i = n2)
    (hE : ∀ h' tk e, (∀ c o, c ≠ z → c ≠ i1 → c ≠ i2 → s.heap.get? c = some o → h'.get? c = some o) → (∃ o, h'.get? e = some o ∧ o.cls = .type "StopIteration") → E (.ref e) { s with heap := h', toks := tk }) :
    wpAny (model prog w) A (Builtin.«zip.__next__» ⟨[.ref z], []⟩) Q E s := by
  obtain ⟨hp, g, d, tk0, os⟩ := s
  show wpAny _ _ (field (.ref z) 2 >>= _) _ _ _
  refine wpAny_bind (wpAny_field hz rfl (x := .bool false) rfl ?_)
  show wpAny _ _ (field (.ref z) 3 >>= _) _ _ _
  refine wpAny_bind (wpAny_field hz rfl (x := .ref TI) rfl ?_)
  refine wpAny_bind (wpAny_seqItems hTI rfl ?_)
  show wpAny _ _ (Builtin.SmallTypes.ownedTupleIsFree (.ref z) >>= _) _ _ _
  refine wpAny_bind (wpAny_tupleHeld_zip hz hT fun g0 hz0 hs0 => ?_)
  replace hs0 : Heap.SameBut z hp g0 := hs0
  simp only [Bool.false_eq_true, if_false]
  refine wpAny_bind ?_
  rw [← Array.forIn_toList]
  simp only [List.forIn_cons, List.forIn_nil]
  refine wpAny_bind (wpAny_bind (wpAny_holding ?_))
  show wpAny _ _ (Builtin.SmallTypes.nextOf (.ref i1) >>= _) _ _ ⟨g0, g, d, tk0, os⟩
  by_cases hlt1 : i < n1
  · refine wpAny_bind (D1.item i _ _ _ hlt1 (D1.over st1 hs0 S.zf1) fun x1 p1 tk1 hx1 sn1 hp1 => wpAny_pure ?_)
    replace hp1 : Heap.SameBut i1 g0 p1 := hp1
    have hi2 : i = n2 := by omega
    refine wpAny_pure ?_
    refine wpAny_bind (wpAny_bind (wpAny_holding ?_))
    show wpAny _ _ (Builtin.SmallTypes.nextOf (.ref i2) >>= _) _ _ ⟨p1, g, d, tk1, os⟩
    refine wpAny_bind (D2.done ⟨p1, g, d, tk1, os⟩ _ _ (by rw [← hi2]; exact D2.over (D2.over st2 hs0 S.zf2) hp1 S.sep1_2) fun q e hq he => ?_)
    replace hq : Heap.ExtBut i2 p1 q := hq
    exact hE q tk1 e (fun c o cz c1 c2 x => hq _ _ c2 (hp1.extBut _ _ c1 (hs0.extBut _ _ cz x))) he
  · have hi1 : i = n1 := by omega
    refine wpAny_bind (D1.done ⟨g0, g, d, tk0, os⟩ _ _ (by rw [← hi1]; exact D1.over st1 hs0 S.zf1) fun q e hq he => ?_)
    replace hq : Heap.ExtBut i1 g0 q := hq
    exact hE q tk0 e (fun c o cz c1 c2 x => hq _ _ c1 (hs0.extBut _ _ cz x)) he
theorem pyNext_zipH_item {Q : Option Value → Shared → Prop} (S : ZipSep2 z TI TO i1 i2 fp1 fp2) (D1 : Draws prog w A.in1 i1 fp1 n1 P1 St1) (D2 : Draws prog w A.in1 i2 fp2 n2 P2 St2)
    (hz : IsZipHeld s.heap z TI TO T f) (hT : s.heap.get? T = some oT) (hTI : IsTupOf2 s.heap TI (.ref i1) (.ref i2)) (st1 : St1 i s.heap) (st2 : St2 i s.heap) (hlt1 : i < n1) (hlt2 : i < n2)
    (hQ : ∀ x1 x2 h' tk, P1 i x1 → P2 i x2 → IsZipHeld h' z TI TO T true → St1 (i + 1) h' → St2 (i + 1) h' → IsTupOf2 h' s.heap.objs.size x1 x2 → h'.objs.size = s.heap.objs.size + 1 →
      (∀ c o, c ≠ z → c ≠ i1 → c ≠ i2 → s.heap.get? c = some o → h'.get? c = some o) → Q (some (.ref s.heap.objs.size)) { s with heap := h', toks := tk }) :
    wpAny (model prog w) A (pyNext (.ref z)) Q E s := by
  have hTy : s.TypeIs (.ref z) "zip" := ⟨_, hz, rfl⟩
  unfold pyNext
  exact wpAny_bind (wpAny_attempt (wpAny_callSpecial?_slot (name := Str.ofString "__next__") hTy F.slot_zip_next
    (wpAny_call_entry F.slot_zip_next hTy F.entry_zip_next
      (zipH_next_item S D1 D2 hz hT hTI st1 st2 hlt1 hlt2 fun x1 x2 h' tk y1 y2 b1 d1 d2 b5 b6 b7 => wpAny_pure (hQ x1 x2 h' tk y1 y2 b1 d1 d2 b5 b6 b7)) (F.args_zip_next_1 _))))
theorem pyNext_zipH_end {Q : Option Value → Shared → Prop} (S : ZipSep2 z TI TO i1 i2 fp1 fp2) (D1 : Draws prog w A.in1 i1 fp1 n1 P1 St1) (D2 : Draws prog w A.in1 i2 fp2 n2 P2 St2)
    (hz : IsZipHeld s.heap z TI TO T f) (hT : s.heap.get? T = some oT) (hTI : IsTupOf2 s.heap TI (.ref i1) (.ref i2)) (st1 : St1 i s.heap) (st2 : St2 i s.heap) (hle1 : i ≤ n1) (hle2 : i ≤ n2) (hend : i = n1 ∨ i = n2)
    (hQ : ∀ h' tk, (∀ c o, c ≠ z → c ≠ i1 → c ≠ i2 → s.heap.get? c = some o → h'.get? c = some o) → Q none { s with heap := h', toks := tk }) : wpAny (model prog w) A (pyNext (.ref z)) Q E s := by
  have hTy : s.TypeIs (.ref z) "zip" := ⟨_, hz, rfl⟩
  unfold pyNext
  refine wpAny_bind (wpAny_attempt (wpAny_callSpecial?_slot (name := Str.ofString "__next__") hTy F.slot_zip_next
    (wpAny_call_entry F.slot_zip_next hTy F.entry_zip_next (zipH_next_end S D1 D2 hz hT hTI st1 st2 hle1 hle2 hend fun h' tk e hk he => ?_) (F.args_zip_next_1 _))))
  obtain ⟨o, ho, hc⟩ := he
  refine wpAny_bind (wpAny_isInstance (T := "StopIteration") (b := true) ⟨o, ho, hc⟩ isSubtype_stop ?_)
  exact wpAny_pure (hQ _ _ hk)
end
/-- the zip's cells, at its i-th turn -/
def ZSt (z TI TO i1 i2 : Addr) (St1 St2 : Nat → Heap → Prop) (i : Nat) (h : Heap) : Prop :=
  IsTupOf2 h TI (.ref i1) (.ref i2) ∧ St1 i h ∧ St2 i h ∧ ((IsZip h z TI TO .none ∧ ∃ a b, IsTupOf2 h TO a b) ∨ ∃ T f oT oO, IsZipHeld h z TI TO T f ∧ h.get? T = some oT ∧ h.get? TO = some oO)
section
variable {X : Cx} {pins : List (Addr × Obj)} {σ : L2.St}
theorem zip_loop {R : Result → Shared → Prop} {A : Around} {S z TI TO i1 i2 : Addr} {fp1 fp2 : List Addr} {n n1 n2 : Nat} {St1 St2 : Nat → Heap → Prop} {its1 its2 : Array Value} {xs ys : List V} {res : Value}
    (hh : A.handled = none) (Sp : ZipSep2 z TI TO i1 i2 fp1 fp2) (D1 : Draws X.prog X.w A.in1.in1 i1 fp1 n1 (fun i v => its1[i]? = some v) St1) (D2 : Draws X.prog X.w A.in1.in1 i2 fp2 n2 (fun i v => its2[i]? = some v) St2)
    (rx : Vals xs its1.toList) (ry : Vals ys its2.toList) (hn1 : n ≤ n1) (hn2 : n ≤ n2) (hn : n = n1 ∨ n = n2) (hz : n ≤ sizeLine) (S1 : S ∉ fp1) (S2 : S ∉ fp2) (Sz : S ≠ z) (STI : S ≠ TI) (STO : S ≠ TO)
    (W : Nat → List V → Hp → Prop) (hW : ∀ i out H x y T, W i out H → xs[i]? = some x → ys[i]? = some y → H T = none → W (i + 1) (out ++ [.ref T]) (upd H T (.tup [x, y])))
    (hR : ∀ s' H' acc c out, Inv X pins σ H' s' → W n out H' → s'.heap.get? S = some (lstObj acc c) → Vals out acc.toList → out.length = n → R (.ok (.ret res)) s') :
    ∀ (k i : Nat) (s : Shared) (H : Hp) (acc : Array Value) (c : Nat) (out : List V), n - i = k → i ≤ n → Inv X pins σ H s → (∀ b ∈ [z, TO, i1, i2, S], FpOk X pins H b) → ZSt z TI TO i1 i2 St1 St2 i s.heap → s.heap.get? S = some (lstObj acc c) → Vals out acc.toList → out.length = i → W i out H →
      codeAny (model X.prog X.w) A (.builtin "list.extend.loop" ⟨[.ref S, .ref z, res], []⟩) R s := by
  have Si1 : S ≠ i1 := fun e => S1 (e ▸ Sp.mem1)
  have Si2 : S ≠ i2 := fun e => S2 (e ▸ Sp.mem2)
  intro k
  induction k with
  | zero =>
    intro i s H acc c out hk hi I hf st hS ra hl w
    have hin : i = n := by omega
    subst hin
    obtain ⟨hTI, st1, st2, zs⟩ := st
    refine codeAny_builtin F.entry_extend_loop ?_
    rw [Around.under_plainId F.plain_extend_loop _]
    show wpAny _ A.in1 (pyNext (.ref z) >>= _) _ _ s
    have fin : ∀ (h' : Heap) (tk : Nat), (∀ c o, c ≠ z → c ≠ TO → c ≠ i1 → c ≠ i2 → s.heap.get? c = some o → h'.get? c = some o) → R (.ok (.ret res)) { s with heap := h', toks := tk } := fun h' tk hk => by
      refine hR _ H acc c out (I.turnedL (t' := tk) (ch := [z, TO, i1, i2, S]) (fun b o hb e => hk b o (fun q => hb (by simp [q])) (fun q => hb (by simp [q])) (fun q => hb (by simp [q])) (fun q => hb (by simp [q])) e) hf) w (hk _ _ Sz STO Si1 Si2 hS) ra hl
    rcases zs with ⟨z0, a, b, hTO⟩ | ⟨T, f, oT, oO, z0, hT, hO⟩
    · exact wpAny_bind (wpAny_pyNext_zipD2_end Sp D1 D2 z0 hTI hTO st1 st2 hn1 hn2 hn fun h' tk hk => wpAny_pure (fin h' tk hk))
    · exact wpAny_bind (pyNext_zipH_end Sp D1 D2 z0 hT hTI st1 st2 hn1 hn2 hn fun h' tk hk => wpAny_pure (fin h' tk fun c o c1 _ c3 c4 e => hk c o c1 c3 c4 e))
  | succ k ih =>
    intro i s H acc c out hk hi I hf st hS ra hl w
    have hlt : i < n := by omega
    obtain ⟨hTI, st1, st2, zs⟩ := st
    refine codeAny_builtin F.entry_extend_loop ?_
    rw [Around.under_plainId F.plain_extend_loop _]
    show wpAny _ A.in1 (pyNext (.ref z) >>= _) _ _ s
    have alive : ∀ b ∈ [z, TO, i1, i2, S], ∃ o, s.heap.get? b = some o := fun b hb => by
      simp only [List.mem_cons, List.not_mem_nil, or_false] at hb
      rcases hb with e | e | e | e | e
      · rw [e]; rcases zs with ⟨z0, _⟩ | ⟨T, f, oT, oO, z0, _⟩
        · exact ⟨_, z0⟩
        · exact ⟨_, z0⟩
      · rw [e]; rcases zs with ⟨_, a, b, q⟩ | ⟨T, f, oT, oO, _, _, q⟩
        · exact ⟨_, q⟩
        · exact ⟨_, q⟩
      · rw [e]; exact D1.live _ _ st1
      · rw [e]; exact D2.live _ _ st2
      · rw [e]; exact ⟨_, hS⟩
    have haS : acc.size = i := by
      have e1 := ra.length
      have e2 : acc.toList.length = acc.size := by simp
      omega
    -- the turn's end
    have fin : ∀ (x1 x2 : Value) (h' : Heap) (tk : Nat) (T : Addr) (f : Bool), its1[i]? = some x1 → its2[i]? = some x2 → IsZipHeld h' z TI TO T f → (∃ oT, h'.get? T = some oT) → St1 (i + 1) h' → St2 (i + 1) h' → IsTupOf2 h' s.heap.objs.size x1 x2 → h'.objs.size = s.heap.objs.size + 1 → (∃ oO, h'.get? TO = some oO) →
        (∀ c o, c ≠ z → c ≠ TO → c ≠ i1 → c ≠ i2 → s.heap.get? c = some o → h'.get? c = some o) →
        wpAny (model X.prog X.w) A.in1 (updateSeq S (·.push (.ref s.heap.objs.size)) >>= fun _ => (again (.builtin "list.extend.loop" ⟨[.ref S, .ref z, res], []⟩) : Sem PySem.Fin)) (fun fin s' => match fin with | .done f => R (.ok f) s' | .again c' => c'.quiet = true ∧ codeAny (model X.prog X.w) A c' R s') (fun e s' => R (.error e) s') { s with heap := h', toks := tk } := by
      intro x1 x2 h' tk T f hx1 hx2 z1 ⟨oT, hT⟩ d1 d2 hp hsz ⟨oO, hO⟩ keep
      have hS' : h'.get? S = some (lstObj acc c) := keep _ _ Sz STO Si1 Si2 hS
      obtain ⟨x, hx, rx1⟩ : ∃ x, xs[i]? = some x ∧ RelV x x1 := by
        have e1 : its1.toList[i]? = some x1 := by rw [Array.getElem?_toList]; exact hx1
        have hi' : i < xs.length := by rw [rx.length]; exact (List.getElem?_eq_some_iff.mp e1).1
        obtain ⟨u, hu, ru⟩ := rx.get (List.getElem?_eq_getElem hi')
        rw [e1] at hu
        cases hu
        exact ⟨_, List.getElem?_eq_getElem hi', ru⟩
      obtain ⟨y, hy, ry1⟩ : ∃ y, ys[i]? = some y ∧ RelV y x2 := by
        have e1 : its2.toList[i]? = some x2 := by rw [Array.getElem?_toList]; exact hx2
        have hi' : i < ys.length := by rw [ry.length]; exact (List.getElem?_eq_some_iff.mp e1).1
        obtain ⟨u, hu, ru⟩ := ry.get (List.getElem?_eq_getElem hi')
        rw [e1] at hu
        cases hu
        exact ⟨_, List.getElem?_eq_getElem hi', ru⟩
      refine wpAny_bind (wpAny_updateSeq hS' rfl (wpAny_pure ⟨plainId_quiet F.plain_extend_loop _, ?_⟩) (by rw [haS]; omega) (by show (acc.push _).size ≤ sizeLine + 1; rw [Array.size_push, haS]; omega))
      have oth : ∀ b o, b ≠ S → h'.get? b = some o → (h'.update S (Obj.mapSeq (·.push (.ref s.heap.objs.size)))).get? b = some o := fun b o hb e => (Heap.get?_update_other _ _ (Ne.symm hb)).trans e
      have new : s.heap.objs.size ≠ S := Nat.ne_of_gt (Heap.lt_size hS)
      have hk2 : ∀ b o, b ∉ [z, TO, i1, i2, S] → s.heap.get? b = some o → (h'.update S (Obj.mapSeq (·.push (.ref s.heap.objs.size)))).get? b = some o := fun b o hb e =>
        oth b o (fun q => hb (by simp [q])) (keep b o (fun q => hb (by simp [q])) (fun q => hb (by simp [q])) (fun q => hb (by simp [q])) (fun q => hb (by simp [q])) e)
      have I2 : Inv X pins σ (upd H s.heap.objs.size (.tup [x, y])) { s with heap := h'.update S (Obj.mapSeq (·.push (.ref s.heap.objs.size))), toks := tk } :=
        I.turnedNew (t' := tk) (ch := [z, TO, i1, i2, S]) hk2 hf (Nat.le_refl _) ⟨by show 2 ≤ sizeLine; decide, [x1, x2], .cons rx1 (.cons ry1 .nil), ⟨_, oth _ _ new hp, rfl, _, rfl⟩⟩
      refine ih (i + 1) _ _ (acc.push (.ref s.heap.objs.size)) _ (out ++ [.ref s.heap.objs.size]) (by omega) hlt I2 (fun b hb => ⟨?_, (hf b hb).2⟩) ⟨oth _ _ (Ne.symm STI) (keep _ _ Sp.TIz Sp.TITO Sp.TIi1 Sp.TIi2 hTI), D1.frame _ _ _ d1 fun b hb o e => oth b o (fun q => S1 (q ▸ hb)) e, D2.frame _ _ _ d2 fun b hb o e => oth b o (fun q => S2 (q ▸ hb)) e, .inr ?_⟩
        (Heap.get?_update_self _ hS' rfl) (by rw [Array.toList_push]; exact ra.append (.cons rfl .nil)) (by simp [hl]) (hW i out H x y _ w hx hy (I.hok.fresh (Nat.le_refl _)))
      · obtain ⟨o, ho⟩ := alive b hb
        rw [upd_ne (Nat.ne_of_lt (Heap.lt_size ho))]
        exact (hf b hb).1
      · by_cases hTS : T = S
        · exact ⟨T, f, _, oO, oth _ _ (Ne.symm Sz) z1, by rw [hTS]; exact Heap.get?_update_self _ hS' rfl, oth _ _ (Ne.symm STO) hO⟩
        · exact ⟨T, f, oT, oO, oth _ _ (Ne.symm Sz) z1, oth _ _ hTS hT, oth _ _ (Ne.symm STO) hO⟩
    rcases zs with ⟨z0, a, b, hTO⟩ | ⟨T, f, oT, oO, z0, hT, hO⟩
    · refine wpAny_bind (wpAny_pyNext_zipD2_item Sp D1 D2 z0 hTI hTO st1 st2 (by omega) (by omega) fun x1 x2 h' tk y1 y2 b1 b2 d1 d2 b5 b6 b7 => ?_)
      exact fin x1 x2 h' tk s.heap.objs.size false y1 y2 b1 ⟨_, b5⟩ d1 d2 b5 b6 ⟨_, b2⟩ b7
    · refine wpAny_bind (pyNext_zipH_item Sp D1 D2 z0 hT hTI st1 st2 (by omega) (by omega) fun x1 x2 h' tk y1 y2 b1 d1 d2 b5 b6 b7 => ?_)
      have hT' : ∃ oT, h'.get? T = some oT := by
        by_cases e1 : T = z
        · rw [e1]; exact ⟨_, b1⟩
        · by_cases e2 : T = i1
          · rw [e2]; exact D1.live _ _ d1
          · by_cases e3 : T = i2
            · rw [e3]; exact D2.live _ _ d2
            · exact ⟨_, b7 _ _ e1 e2 e3 hT⟩
      exact fin x1 x2 h' tk T true y1 y2 b1 hT' d1 d2 b5 b6 ⟨_, b7 _ _ Sp.TOz Sp.Ti1 Sp.Ti2 hO⟩ fun c o c1 _ c3 c4 e => b7 c o c1 c3 c4 e
theorem collect_zip {Q : List Value → Shared → Prop} {E : Value → Shared → Prop} {A : Around} {z TI TO i1 i2 : Addr} {fp1 fp2 : List Addr} {n n1 n2 : Nat} {St1 St2 : Nat → Heap → Prop} {its1 its2 : Array Value} {xs ys : List V} {s : Shared} {H : Hp}
    (hh : A.handled = none) (Sp : ZipSep2 z TI TO i1 i2 fp1 fp2) (D1 : ∀ A' : Around, A'.handled = none → Draws X.prog X.w A' i1 fp1 n1 (fun i v => its1[i]? = some v) St1) (D2 : ∀ A' : Around, A'.handled = none → Draws X.prog X.w A' i2 fp2 n2 (fun i v => its2[i]? = some v) St2)
    (rx : Vals xs its1.toList) (ry : Vals ys its2.toList) (hn1 : n ≤ n1) (hn2 : n ≤ n2) (hn : n = n1 ∨ n = n2) (hz : n ≤ sizeLine)
    (W : Nat → List V → Hp → Prop) (hW : ∀ i out H x y T, W i out H → xs[i]? = some x → ys[i]? = some y → H T = none → W (i + 1) (out ++ [.ref T]) (upd H T (.tup [x, y])))
    (I : Inv X pins σ H s) (hf : ∀ b ∈ [z, TO, i1, i2], FpOk X pins H b) (hlt : ∀ b ∈ z :: TI :: TO :: (fp1 ++ fp2), b < s.heap.objs.size) (z0 : IsZip s.heap z TI TO .none) (hTI : IsTupOf2 s.heap TI (.ref i1) (.ref i2)) (hTO : ∃ a b, IsTupOf2 s.heap TO a b) (st1 : St1 0 s.heap) (st2 : St2 0 s.heap) (w : W 0 [] H)
    (hQ : ∀ (s' : Shared) (H' : Hp) (acc : Array Value) (out : List V), Inv X pins σ H' s' → W n out H' → Vals out acc.toList → out.length = n → Q acc.toList s') : wpAny (model X.prog X.w) A (collect (.ref z)) Q E s := by
  have lt : ∀ b, b ∈ z :: TI :: TO :: (fp1 ++ fp2) → s.heap.objs.size ≠ b := fun b hb => Nat.ne_of_gt (hlt b hb)
  have hSz := lt z (by simp)
  have hSTI := lt TI (by simp)
  have hSTO := lt TO (by simp)
  have hS1 : s.heap.objs.size ∉ fp1 := fun q => lt _ (by simp [q]) rfl
  have hS2 : s.heap.objs.size ∉ fp2 := fun q => lt _ (by simp [q]) rfl
  unfold collect
  refine wpAny_bind (wpAny_runValue (codeAny_builtin F.entry_proto_collect ?_))
  rw [Around.under_plainId F.plain_proto_collect _]
  show wpAny _ A.in1 (newList [] >>= fun l' => again (.builtin "list.__iadd__" ⟨[l', .ref z], []⟩)) _ _ s
  refine wpAny_bind (wpAny_newObj_type ?_)
  refine wpAny_pure ⟨plainId_quiet F.plain_list_iadd _, codeAny_builtin F.entry_list_iadd ?_⟩
  rw [Around.under_plainId F.plain_list_iadd _]
  have hS₁ : (s.heap.push { cls := .type "list", data := .seq ([] : List Value).toArray }).get? s.heap.objs.size = some { cls := .type "list", data := .seq ([] : List Value).toArray } := Heap.get?_push_size _ rfl
  have z1 : IsZip (s.heap.push { cls := .type "list", data := .seq ([] : List Value).toArray }) z TI TO .none := Heap.get?_push_of_some _ z0
  have hT : ({ s with heap := s.heap.push { cls := .type "list", data := .seq ([] : List Value).toArray } } : Shared).TypeIs (.ref z) "zip" := ⟨_, z1, rfl⟩
  have h1 : Builtin.List.listSameRef (.ref s.heap.objs.size) (.ref z) = false := by simp [Builtin.List.listSameRef, hSz]
  show wpAny _ A.in1 (Builtin.List.listExtendWith (.ref s.heap.objs.size) (.ref z) (.ref s.heap.objs.size)) _ _ _
  unfold Builtin.List.listExtendWith
  refine wpAny_bind (wpAny_typeOf hT ?_)
  have h2 : (Value.type "zip" == Value.type "list") = false := by decide
  have h3 : (Value.type "zip" == Value.type "tuple") = false := by decide
  simp only [h1, h2, h3, Bool.or_false, Bool.false_eq_true, if_false]
  refine wpAny_bind (wpAny_pyIter_zip (s := { s with heap := s.heap.push { cls := .type "list", data := .seq ([] : List Value).toArray } }) z1 ?_)
  refine wpAny_bind (wpAny_holding ?_)
  unfold Builtin.List.listLengthHint
  refine wpAny_bind (wpAny_specialOf hT nolen_zip ?_)
  show wpAny _ A.in1 (specialOf (Value.ref z) (Str.ofString "__length_hint__") >>= _) _ _ _
  refine wpAny_bind (wpAny_specialOf hT nohint_zip ?_)
  refine wpAny_pure ?_
  show wpAny _ A.in1 (rule "list.extend.makes-room" >>= fun _ => Builtin.List.listTouch (.ref s.heap.objs.size) >>= fun _ =>
    again (.builtin "list.extend.loop" ⟨[.ref s.heap.objs.size, .ref z, .ref s.heap.objs.size], []⟩)) _ _ _
  refine wpAny_bind (wpAny_rule ?_)
  refine wpAny_bind ?_
  show wpAny _ A.in1 (updateSeq s.heap.objs.size (·.push .none) >>= fun _ => updateSeq s.heap.objs.size (·.pop)) _ _ _
  refine wpAny_bind (wpAny_updateSeq hS₁ rfl ?_)
  have hS₂ := Heap.get?_update_self (Obj.mapSeq (·.push Value.none)) hS₁ rfl
  refine wpAny_updateSeq hS₂ rfl ?_
  have hS₃ := Heap.get?_update_self (Obj.mapSeq (·.pop)) hS₂ rfl
  have oth : ∀ b o, b ≠ s.heap.objs.size → s.heap.get? b = some o →
      (((s.heap.push { cls := .type "list", data := .seq ([] : List Value).toArray }).update s.heap.objs.size (Obj.mapSeq (·.push Value.none))).update s.heap.objs.size (Obj.mapSeq (·.pop))).get? b = some o :=
    fun b o hb e => (Heap.get?_update_other _ _ (Ne.symm hb)).trans ((Heap.get?_update_other _ _ (Ne.symm hb)).trans (Heap.get?_push_of_some _ e))
  have kall : ∀ b o, s.heap.get? b = some o → _ := fun b o e => oth b o (Nat.ne_of_lt (Heap.lt_size e)) e
  have hSf : FpOk X pins H s.heap.objs.size := I.fpOk (Nat.le_refl _) (I.hok.fresh (Nat.le_refl _))
  obtain ⟨a, b, hTO⟩ := hTO
  refine wpAny_pure ⟨plainId_quiet F.plain_extend_loop _, zip_loop hh Sp (D1 _ hh) (D2 _ hh) rx ry hn1 hn2 hn hz hS1 hS2 hSz hSTI hSTO W hW (fun s' H' acc c out I' w' hS' ra hl => ?_) n 0 _ H _ _ [] rfl (Nat.zero_le _) (I.kept (t' := s.toks) kall) (fun b hb => ?_)
    ⟨kall _ _ hTI, (D1 A hh).frame _ _ _ st1 fun b _ o e => kall b o e, (D2 A hh).frame _ _ _ st2 fun b _ o e => kall b o e, .inl ⟨kall _ _ z0, a, b, kall _ _ hTO⟩⟩ hS₃ .nil rfl w⟩
  · show wpAny _ A (load s.heap.objs.size >>= _) _ _ s'
    refine wpAny_bind (wpAny_load hS' ?_)
    exact wpAny_pure (hQ s' H' acc out I' w' ra hl)
  · simp only [List.mem_cons, List.not_mem_nil, or_false] at hb
    rcases hb with e | e | e | e | e
    · exact hf b (by simp [e])
    · exact hf b (by simp [e])
    · exact hf b (by simp [e])
    · exact hf b (by simp [e])
    · rw [e]; exact hSf
theorem code_tuple_zip {Q₁ : Value → Shared → Prop} {E : Value → Shared → Prop} {A : Around} {z TI TO i1 i2 : Addr} {fp1 fp2 : List Addr} {n n1 n2 : Nat} {St1 St2 : Nat → Heap → Prop} {its1 its2 : Array Value} {xs ys : List V} {s : Shared} {H : Hp}
    (hh : A.handled = none) (Sp : ZipSep2 z TI TO i1 i2 fp1 fp2) (D1 : ∀ A' : Around, A'.handled = none → Draws X.prog X.w A' i1 fp1 n1 (fun i v => its1[i]? = some v) St1) (D2 : ∀ A' : Around, A'.handled = none → Draws X.prog X.w A' i2 fp2 n2 (fun i v => its2[i]? = some v) St2)
    (rx : Vals xs its1.toList) (ry : Vals ys its2.toList) (hn1 : n ≤ n1) (hn2 : n ≤ n2) (hn : n = n1 ∨ n = n2) (hz : n ≤ sizeLine)
    (W : Nat → List V → Hp → Prop) (hW : ∀ i out H x y T, W i out H → xs[i]? = some x → ys[i]? = some y → H T = none → W (i + 1) (out ++ [.ref T]) (upd H T (.tup [x, y])))
    (I : Inv X pins σ H s) (hf : ∀ b ∈ [z, TO, i1, i2], FpOk X pins H b) (hlt : ∀ b ∈ z :: TI :: TO :: (fp1 ++ fp2), b < s.heap.objs.size) (z0 : IsZip s.heap z TI TO .none) (hTI : IsTupOf2 s.heap TI (.ref i1) (.ref i2)) (hTO : ∃ a b, IsTupOf2 s.heap TO a b) (st1 : St1 0 s.heap) (st2 : St2 0 s.heap) (w : W 0 [] H)
    (hQ : ∀ (s' : Shared) (H' : Hp) (acc : Array Value) (out : List V), Inv X pins σ H' s' → W n out H' → Vals out acc.toList → out.length = n → Q₁ (.ref s'.heap.objs.size) { s' with heap := s'.heap.push { cls := .type "tuple", data := .seq acc } }) :
    codeAny (model X.prog X.w) A (.call (.builtin "tuple.__new__") ⟨[.type "tuple", .ref z], []⟩) (wants Q₁ E) s := by
  refine codeAny_of_tree ?_
  show wpAny _ A.in1 (do checkBuiltinCall "tuple.__new__" ⟨[.type "tuple", .ref z], []⟩; again (.builtin "tuple.__new__" ⟨[.type "tuple", .ref z], []⟩)) _ _ s
  refine wpAny_bind (wpAny_of_eq (F.newCall_tuple_1 _) (wpAny_pure ⟨plainId_quiet F.plain_tuple_new _, codeAny_builtin F.entry_tuple_new ?_⟩))
  rw [Around.under_plainId F.plain_tuple_new _]
  have hsub := sub_tuple_self
  have hinit := init_tuple_lookup
  have hmh := madeHere_tuple
  have hTz : s.TypeIs (.ref z) "zip" := ⟨_, z0, rfl⟩
  have hh1 : A.in1.handled = none := hh
  wp_walk using wpAny_typeOf hTz, collect_zip (A := A.in1) hh1 Sp D1 D2 rx ry hn1 hn2 hn hz W hW I hf hlt z0 hTI hTO st1 st2 w
  intro s' H' acc out I' w' ra hl
  show wpAny _ _ (Builtin.Tuple.tupleExact acc.toList.toArray >>= fun v => ret v) _ _ _
  unfold Builtin.Tuple.tupleExact
  have hacc : acc.size = n := by
    have e1 := ra.length
    have e2 : acc.toList.length = acc.size := by simp
    omega
  refine wpAny_bind (wpAny_newObj_type ?_ (by show acc.toList.toArray.size ≤ sizeLine; simp only [Array.toArray_toList]; rw [hacc]; exact hz))
  refine wpAny_pure ?_
  have e : acc.toList.toArray = acc := by simp
  rw [e]
  exact hQ s' H' acc out I' w' ra hl
theorem call_tuple_zip {Q : Value → Shared → Prop} {E : Value → Shared → Prop} {A : Around} {z TI TO i1 i2 : Addr} {fp1 fp2 : List Addr} {n n1 n2 : Nat} {St1 St2 : Nat → Heap → Prop} {its1 its2 : Array Value} {xs ys : List V} {s : Shared} {H : Hp}
    (hh : A.handled = none) (Sp : ZipSep2 z TI TO i1 i2 fp1 fp2) (D1 : ∀ A' : Around, A'.handled = none → Draws X.prog X.w A' i1 fp1 n1 (fun i v => its1[i]? = some v) St1) (D2 : ∀ A' : Around, A'.handled = none → Draws X.prog X.w A' i2 fp2 n2 (fun i v => its2[i]? = some v) St2)
    (rx : Vals xs its1.toList) (ry : Vals ys its2.toList) (hn1 : n ≤ n1) (hn2 : n ≤ n2) (hn : n = n1 ∨ n = n2) (hz : n ≤ sizeLine)
    (W : Nat → List V → Hp → Prop) (hW : ∀ i out H x y T, W i out H → xs[i]? = some x → ys[i]? = some y → H T = none → W (i + 1) (out ++ [.ref T]) (upd H T (.tup [x, y])))
    (I : Inv X pins σ H s) (hf : ∀ b ∈ [z, TO, i1, i2], FpOk X pins H b) (hlt : ∀ b ∈ z :: TI :: TO :: (fp1 ++ fp2), b < s.heap.objs.size) (z0 : IsZip s.heap z TI TO .none) (hTI : IsTupOf2 s.heap TI (.ref i1) (.ref i2)) (hTO : ∃ a b, IsTupOf2 s.heap TO a b) (st1 : St1 0 s.heap) (st2 : St2 0 s.heap) (w : W 0 [] H)
    (hQ : ∀ (s' : Shared) (H' : Hp) (acc : Array Value) (out : List V), Inv X pins σ H' s' → W n out H' → Vals out acc.toList → out.length = n → Q (.ref s'.heap.objs.size) { s' with heap := s'.heap.push { cls := .type "tuple", data := .seq acc } }) :
    wpAny (model X.prog X.w) A (call (.type "tuple") [.ref z]) Q E s := by
  refine callType_codes (Q₁ := fun obj s₁ => s₁.TypeIs obj "tuple" ∧ Q obj s₁) F.called_tuple (F.typeCall_tuple_1 _) F.entry_object_init
    (code_tuple_zip (A := A.in1) hh Sp D1 D2 rx ry hn1 hn2 hn hz W hW I hf hlt z0 hTI hTO st1 st2 w fun s' H' acc out I' w' ra hl => ⟨⟨_, Heap.get?_push_size _ rfl, rfl⟩, hQ s' H' acc out I' w' ra hl⟩) fun obj s₁ h₁ => ?_
  exact ⟨h₁.1, F.args_object_init_2 obj _, object_init_meets F.called_tuple.init.lookup F.called_tuple.made (by decide) X.prog X.w A.in1 _ s₁ ⟨h₁.1, rfl, h₁.2⟩⟩
/-- tuple(zip(a, b)) -/
def tTupZip (K : PySem.W.Frag) (ta : TA) : TE := fun σ H Q => ta σ H fun vs H1 => ∃ a b xs ys, vs = [.ref a, .ref b] ∧ (SqL K H1 a xs ∨ SqT K H1 a xs) ∧ (SqL K H1 b ys ∨ SqT K H1 b ys) ∧ ∃ W : Nat → List V → Hp → Prop, W 0 [] H1 ∧
  (∀ i out H x y T, W i out H → xs[i]? = some x → ys[i]? = some y → H T = none → W (i + 1) (out ++ [.ref T]) (upd H T (.tup [x, y]))) ∧ ∀ out H, W (min xs.length ys.length) out H → ∀ T, H T = none → Q (.ref T) (upd H T (.tup out))
theorem pe_tupZip {e e2 : Expr} {ta : TA} {p p2 pos pos2 : Pos} (hg : Gl X "tuple") (hm : X.mg "tuple" = none) (hg2 : Gl X "zip") (hm2 : X.mg "zip" = none) (hb : bootBuiltins "tuple" = some (.type "tuple")) (hc : X.A.handled = none) (ha : PA X [e, e2] ta)
    (hs2 : starEach [e, e2] X.env = (false, eval e X.env) :: starEach [e2] X.env := by rfl) (hpl : (backTo pos2 (starEach [e2] X.env)).any (·.1) = false := by rfl)
    (hs : starEach [.Call (.Name "zip" p2) [e, e2] [] pos2] X.env = (false, eval (.Call (.Name "zip" p2) [e, e2] [] pos2) X.env) :: starEach [] X.env := by rfl) :
    PE X (.Call (.Name "tuple" p) [.Call (.Name "zip" p2) [e, e2] [] pos2] [] pos) (tTupZip X.K ta) := by
  refine ⟨fun pins s σ H Q I h => ?_⟩
  refine wpAny_Call_Name_kw (ld_blt I hg hm hb ?_)
  refine PyProof.Rows.callWith_type1 ?_ hs (by rfl)
  rw [hs]
  show wpAny _ _ (spliced ((false, eval (.Call (.Name "zip" p2) [e, e2] [] pos2) X.env) :: backTo pos (starEach [] X.env))) _ _ s
  refine Calls.spliced_cons ?_
  refine Call_ (ld_blt I hg2 hm2 PyProof.Rows.boot_zip (PyProof.Rows.callWith_type1 (thn (ha.run pos2 pins s σ H _ I h) fun us s1 ⟨vs, H1, I1, r1, q1⟩ => ?_) hs2 hpl))
  obtain ⟨a, b, xs, ys, ex, qx, qy, W, w0, hW, hQ⟩ := q1
  subst ex
  cases r1 with
  | cons r rr =>
    cases rr with
    | cons r' rr =>
      cases rr
      cases r
      cases r'
      -- each of the two: how its walk begins, its items
      have side : ∀ (l : Addr) (zs : List V), (SqL X.K H1 l zs ∨ SqT X.K H1 l zs) → ∃ (its : List Value) (o : Obj) (Hb : Heap → Prop) (St : Addr → Nat → Heap → Prop), Vals zs its ∧ zs.length ≤ sizeLine ∧ Begins (.ref l) o Hb ∧ Hb s1.heap ∧ l < s1.heap.objs.size ∧
          (∀ (it : Addr), l ≠ it → ∀ A' : Around, A'.handled = none → Draws X.prog X.w A' it [it, l] its.toArray.size (fun i v => its.toArray[i]? = some v) (St it)) ∧ (∀ (it : Addr) (h : Heap), h.get? it = some o → Hb h → St it 0 h) := fun l zs hq => by
        rcases hq with hq | hq
        · obtain ⟨its, rv, p1, hz⟩ := I1.list hq
          exact ⟨its, _, _, fun it i h => h.IsListIter it l i ∧ h.IsList l its.toArray, rv, hz, begins_list l its.toArray, p1.isList, p1.lt, fun it hne A' hA => Draws.list hA it l hne its.toArray, fun it h ho hb => ⟨⟨_, ho, rfl, rfl⟩, hb⟩⟩
        · obtain ⟨its, rv, p1, hz⟩ := I1.tuple hq
          obtain ⟨o1, ho1, _⟩ := id p1
          exact ⟨its, _, _, fun it i h => h.IsTupleIter it l i ∧ h.IsTuple l its.toArray, rv, hz, begins_tuple l its.toArray, p1, Heap.lt_size ho1, fun it hne A' hA => Draws.tuple hA it l hne its.toArray, fun it h ho hb => ⟨⟨_, ho, rfl, rfl⟩, hb⟩⟩
      obtain ⟨its1, o1, Hb1, St1, rv1, z1, B1, hb1, lt1, D1, s01⟩ := side a xs qx
      obtain ⟨its2, o2, Hb2, St2, rv2, z2, B2, hb2, lt2, D2, s02⟩ := side b ys qy
      refine zip_begins2 B1 B2 hb1 hb2 fun h' hz hTI hTO g1 g2 hsz hk => ?_
      have I2 : Inv X pins σ H1 { s1 with heap := h' } := I1.kept (t' := s1.toks) hk
      refine Calls.spliced_nil ?_
      have fr : ∀ c, s1.heap.objs.size ≤ c → FpOk X pins H1 c := fun c hc => I1.fpOk hc (I1.hok.fresh hc)
      have l1 : its1.toArray.size = xs.length := by rw [List.size_toArray, rv1.length]
      have l2 : its2.toArray.size = ys.length := by rw [List.size_toArray, rv2.length]
      refine call_tuple_zip (n := min xs.length ys.length) hc (zip_sep2 (N := s1.heap.objs.size) (fp1 := [a]) (fp2 := [b]) (fun c hc => by rw [List.mem_singleton.mp hc]; exact lt1) (fun c hc => by rw [List.mem_singleton.mp hc]; exact lt2))
        (D1 _ (Nat.ne_of_lt lt1)) (D2 _ (Nat.ne_of_lt (Nat.lt_succ_of_lt lt2))) (by simpa using rv1) (by simpa using rv2) (by rw [l1]; exact Nat.min_le_left _ _) (by rw [l2]; exact Nat.min_le_right _ _) (by rw [l1, l2]; omega) (Nat.le_trans (Nat.min_le_left _ _) z1) W hW I2
        (fun c hc => fr c ?_) (fun c hc => ?_) hz hTI ⟨_, _, hTO⟩ (s01 _ _ g1 (B1.keeps _ _ hb1 hk)) (s02 _ _ g2 (B2.keeps _ _ hb2 hk)) w0 fun s' H' acc out I' w' ra hl => ?_
      · simp only [List.mem_cons, List.not_mem_nil, or_false] at hc
        rcases hc with e | e | e | e <;> rw [e]
        · exact Nat.le_add_right _ _
        · exact Nat.le_add_right _ _
        · exact Nat.le_refl _
        · exact Nat.le_succ _
      · show c < h'.objs.size
        have lt3 : s1.heap.objs.size + 5 ≤ h'.objs.size := Nat.le_of_eq hsz.symm
        simp only [List.mem_cons, List.mem_append, List.not_mem_nil, or_false] at hc
        have e1 : a < h'.objs.size := Nat.lt_of_lt_of_le lt1 (by omega)
        have e2 : b < h'.objs.size := Nat.lt_of_lt_of_le lt2 (by omega)
        rcases hc with e | e | e | (e | e) | (e | e) <;> rw [e]
        · exact Nat.lt_of_lt_of_le (Nat.lt_succ_self _) lt3
        · exact Nat.lt_of_lt_of_le (by omega) lt3
        · exact Nat.lt_of_lt_of_le (by omega) lt3
        · exact Nat.lt_of_lt_of_le (by omega) lt3
        · exact e1
        · exact Nat.lt_of_lt_of_le (by omega) lt3
        · exact e2
      · have hzs : out.length ≤ sizeLine := by rw [hl]; exact Nat.le_trans (Nat.min_le_left _ _) z1
        exact ⟨.ref s'.heap.objs.size, _, I'.laid (t' := s'.toks) (fun b o e => Heap.get?_push_of_some _ e) (Nat.le_refl _) (show ObjOk X.prog X.w _ _ _ (.tup out) from ⟨hzs, acc.toList, ra, by simpa using IsTup.new s'.heap acc⟩), rfl, hQ out H' w' _ (I'.hok.fresh (Nat.le_refl _))⟩
end
end FL

set_option Elab.async false
set_option linter.all false
set_option maxRecDepth 100000
set_option maxHeartbeats 2000000
/-! FL31: tuple(zip(a, b)) by values. -/
namespace FL
open PySem PySem.Spec PyProof.Rows L2
def zip2 (xs ys : List D) : List D := List.zipWith (fun x y => .tup [x, y]) xs ys
def tupZipD : List D → Option D
  | [a, b] => match seqOf a, seqOf b with
    | some xs, some ys => some (.tup (zip2 xs ys))
    | _, _ => none
  | _ => none
def tupZipM (fa : M (List D)) : M D := bindM fa fun ds => liftO (tupZipD ds)
theorem seq_at {K : PySem.W.Frag} {G H : Hp} {v : V} {d : D} {xs : List D} (sub : Same G H) (r : Rep K G v d) (e : seqOf d = some xs) : ∃ a vs, v = .ref a ∧ (SqL K H a vs ∨ SqT K H a vs) ∧ RepL K G vs xs := by
  cases r with
  | lst h1 h2 => cases e; exact ⟨_, _, rfl, .inl (.of (sub _ _ h1)), h2⟩
  | tup h1 h2 => cases e; exact ⟨_, _, rfl, .inr (seqT sub h1), h2⟩
  | _ => cases e
theorem zip2_take {xs ys : List D} {i : Nat} {x y : D} (hx : xs[i]? = some x) (hy : ys[i]? = some y) : (zip2 xs ys).take (i + 1) = (zip2 xs ys).take i ++ [.tup [x, y]] := by
  have h : (zip2 xs ys)[i]? = some (.tup [x, y]) := by
    unfold zip2
    rw [List.getElem?_zipWith, hx, hy]
  rw [List.take_add_one, h]
  rfl
theorem sp_tupZip {K : PySem.W.Frag} {T : Tb} {cl : Nat → Addr} {E : XK} {ta : TA} {fa : M (List D)} (sa : Sp2 (K, T) cl E (RepL K) ta fa) : Sp2 (K, T) cl E (Rep K) (tTupZip K ta) (tupZipM fa) := by
  intro F σ G H δ r s e Q p
  refine sa.step s e p fun G1 H1 δ1 vs ds s1 g1 rx e1 p1 => ?_
  obtain ⟨d, hd, rfl⟩ := liftO_eq e1
  unfold tupZipD at hd
  split at hd
  · split at hd
    · rename_i d1 d2 xs ys ha hb
      cases hd
      cases rx with
      | cons r1 rr =>
        cases rr with
        | cons r2 rr =>
          cases rr
          obtain ⟨a, us, rfl, qa, ra⟩ := seq_at s1.sub r1 ha
          obtain ⟨b, ws, rfl, qb, rb⟩ := seq_at s1.sub r2 hb
          refine ⟨a, b, us, ws, rfl, qa, qb, fun i out H => ∃ G', Same G1 G' ∧ S (K, T) F σ G' H δ1 ∧ RepL K G' out ((zip2 xs ys).take i), ⟨G1, Same.refl _, s1, by rw [List.take_zero]; exact .nil⟩, fun i out H x y t w hx hy ht => ?_, fun out H w t ht => ?_⟩
          · obtain ⟨G', g', s', ro⟩ := w
            obtain ⟨dx, hdx, rdx⟩ := ra.get' hx
            obtain ⟨dy, hdy, rdy⟩ := rb.get' hy
            have g2 := same_upd (o := .tup [x, y]) (s'.sub.free ht)
            refine ⟨_, g'.trans g2, s'.new ht, ?_⟩
            rw [zip2_take hdx hdy]
            exact (ro.mono g2).append (.cons (.tup (.of upd_same) (.cons (rdx.mono (g'.trans g2)) (.cons (rdy.mono (g'.trans g2)) .nil))) .nil)
          · obtain ⟨G', g', s', ro⟩ := w
            have g2 := same_upd (o := .tup out) (s'.sub.free ht)
            refine p1 _ _ _ (s'.new ht) (g'.trans g2) (.tup (.of upd_same) ?_)
            have e : (zip2 xs ys).take (min us.length ws.length) = zip2 xs ys := List.take_of_length_le (by unfold zip2; rw [List.length_zipWith, ra.length, rb.length]; exact Nat.le_refl _)
            rw [e] at ro
            exact ro.mono g2
    · cases hd
  · cases hd
section
variable {c : SC}
theorem fe_tupZip {e e2 : Expr} {f : M (List D)} {p p2 pos pos2 : Pos} (hm : c.mg "tuple" = none) (hm2 : c.mg "zip" = none) (ha : FA c [e, e2] f) (hg : Gb c "tuple" := by rfl) (hg2 : Gb c "zip" := by rfl)
    (hs2 : ∀ env : Env, starEach [e, e2] env = (false, eval e env) :: starEach [e2] env := by intro _; rfl) (hpl : ∀ env : Env, (backTo pos2 (starEach [e2] env)).any (·.1) = false := by intro _; rfl)
    (hs : ∀ env : Env, starEach [.Call (.Name "zip" p2) [e, e2] [] pos2] env = (false, eval (.Call (.Name "zip" p2) [e, e2] [] pos2) env) :: starEach [] env := by intro _; rfl) :
    FE c (.Call (.Name "tuple" p) [.Call (.Name "zip" p2) [e, e2] [] pos2] [] pos) (tupZipM f) := by
  obtain ⟨t, pa, sa⟩ := ha.ex
  refine ⟨tTupZip c.K t, fun X h => ?_, sp_tupZip sa⟩
  have := pe_tupZip (X := X) (p := p) (p2 := p2) (pos := pos) (pos2 := pos2) (show X.env.scope.names.lookup _ = _ by rw [h.sc]; exact hg) (by rw [h.mg]; exact hm) (show X.env.scope.names.lookup _ = _ by rw [h.sc]; exact hg2) (by rw [h.mg]; exact hm2) (by decide +kernel) h.room.hd (pa X h) (hs2 _) (hpl _) (hs _)
  rw [h.K] at this
  exact this
end
end FL

set_option Elab.async false
set_option linter.all false
set_option maxRecDepth 100000
set_option maxHeartbeats 2000000
/-! FL32: the head with the tables that one names. -/
namespace FL
open PySem PySem.Spec PyProof.Rows L2
def P0 : Params := { strHash := fun _ => 0, shareClass := fun _ => 0, mergeTok := fun t => t, idOf := fun _ => 0, idOfShared := fun _ _ => 0, followText := fun _ => false, idOfImm := fun _ => 0 }
def asOf (K : Params → PySem.W.Frag) : List Addr := (K P0).map (·.1)
/-- the tables of the defs with these names -/
def tabsN (K : Params → PySem.W.Frag) (qs : List Str) : List Addr := (K P0).filterMap fun p => match p.2.data with
  | .func fd => if qs.contains fd.qualname then (match fd.code with | .ref C => tabOf (K P0) C | _ => none) else none
  | _ => none
end FL

set_option Elab.async false
set_option linter.all false
set_option maxRecDepth 100000
set_option maxHeartbeats 2000000
/-! FL33: an exception out of a list comprehension. -/
namespace FL
open PySem PySem.Spec PyProof.Rows L2
section
variable {X : Cx} {W : WX}
/-- what the comprehension's frame note is, in the air of the def: the exception is held by the def's frame -/
theorem sky_noted {B : Heap} {l : List Env} {a L : Addr} {cls : Value} {d : Option Addr} {M : Model} {A : Around} {E : Value → Shared → Prop} {ce env : Env} {outer : List Env} {s : Shared} {Q : Unit → Shared → Prop}
    (hfr : A.frames = some (env :: outer)) (hf : ce.frame = some L) (hf' : env.frame = some L) (sky : Sky B (env :: outer) a (Zc cls d) L s.heap)
    (hQ : ∀ h', HandSPX.HeldZ B (env :: outer) a (Zc cls d) L h' → s.heap.UpToSlots h' → Q () { s with heap := h' }) : wpAny M A (noteFrame (.ref a) ce) Q E s := by
  have e : noteFrame (.ref a) ce = noteFrame (.ref a) env := by unfold noteFrame PySem.frameOf; rw [hf, hf']
  rw [e]
  rcases sky with ⟨hB, hn, hl, oe, vs, he, hz, hd, h1⟩ | fl | hh
  · exact HandSPX.look_newZ Zc.steady hfr hl hf' he hB hn hd h1 hz hQ
  · exact HandSPX.looks_onZ Zc.steady hfr hf' fl hQ
  · exact HandSPX.againZ hf' hh.2.2.2 (hQ s.heap hh (Heap.UpToSlots.refl _))
/-- the inner dict goes: nothing of the exception is of it -/
theorem held_without {B : Heap} {l : List Env} {a L C : Addr} {Z : Obj → Prop} {h h' : Heap} (hh : HandSPX.HeldZ B l a Z L h) (hC : ∃ o, B.get? C = some o) (sb : Heap.SameBut C h h') :
    ∃ B', (∀ b o, b ≠ C → B.get? b = some o → B'.get? b = some o) ∧ (∀ b o, B'.get? b = some o → b ≠ C ∧ B.get? b = some o) ∧ HandSPX.HeldZ B' l a Z L h' := by
  obtain ⟨o, hC⟩ := hC
  obtain ⟨k1, k2, k3, oe, vs, T, oT, ts, he, hz, hd, h1, hnT, hTe, hT, hdT, h3⟩ := hh
  obtain ⟨B', g1, g2⟩ := restrict B fun b => decide (b ≠ C)
  have back : ∀ b o, B'.get? b = some o → b ≠ C ∧ B.get? b = some o := fun b o e => by
    by_cases hb : b = C
    · rw [g2 b (by simp [hb])] at e; cases e
    · rw [g1 b (by simp [hb])] at e; exact ⟨hb, e⟩
  have none' : ∀ b, B.get? b = none → B'.get? b = none := fun b e => by
    cases q : B'.get? b with
    | none => rfl
    | some o => rw [(back b o q).2] at e; cases e
  have neC : ∀ b, B.get? b = none → b ≠ C := fun b e z => by rw [z, hC] at e; cases e
  refine ⟨B', fun b o hb e => by rw [g1 b (by simp [hb])]; exact e, back, fun b o e => ?_, none' a k2, ?_, oe, vs, T, oT, ts, ?_, hz, hd, h1, none' T hnT, hTe, ?_, hdT, h3⟩
  · obtain ⟨hb, e'⟩ := back b o e
    rw [sb.2 b hb]; exact k1 b o e'
  · have := funFrames_none (B := B') k3 fun b hb => none' b (k3.mem hb).1
    clear k1 k2
    revert this k3
    induction l with
    | nil => intro _ _; trivial
    | cons env l ih =>
      rintro ⟨_, ⟨L1, o1, f1, n1, _, _⟩, r0⟩ ⟨hk, ⟨L2, o2, f2, n2, q2, d2⟩, r⟩
      rw [f1] at f2; cases f2
      exact ⟨hk, ⟨L1, o2, f1, n2, by rw [sb.2 _ (neC _ n1)]; exact q2, d2⟩, ih r0 r⟩
  · rw [sb.2 a (neC a k2)]; exact he
  · rw [sb.2 T (neC T hnT)]; exact hT
end
end FL

set_option Elab.async false
set_option linter.all false
set_option maxRecDepth 100000
set_option maxHeartbeats 4000000
/-! FL34: an exception out of a list comprehension: the rule. -/
namespace FL
open PySem PySem.Spec PyProof.Rows L2
section
variable {M : Model} {A : Around} {E : Value → Shared → Prop} {s : Shared} {env : Env}
/-- what is due when the block has ended, C its names' dict, fr its frame -/
def endP (M : Model) (A : Around) (E : Value → Shared → Prop) (Q : Value → Shared → Prop) (acc : Value) (C : Addr) (fr : Option Addr) (r : Result) (s' : Shared) : Prop :=
  ∃ m, s'.heap.Ns C m ∧ ∀ h', Heap.SameBut C s'.heap h' → match r with
    | .ok _ => Q acc { s' with heap := h' }
    | .error x => ∀ ce : Env, ce.frame = fr → wpAny M A (PySem.passOn "comprehension.variables-let-go" x ce : Sem Value) (fun _ _ => False) E { s' with heap := h' }
theorem wp_comp {e : Expr} {scope : Scope} {pos : Pos} {newAcc first : Sem Value} {g : Comprehension} {gs : List Comprehension} {cl : List (Str × Addr)} {Q : Value → Shared → Prop}
    (c1 : clausesOf e = g :: gs) (c2 : ∀ x, foldedSetIterable g.iter env x = pure x) (c3 : closureFor scope env = pure cl) (c4 : scope.kind = .function) (c5 : ∀ x ∈ scope.names, x.2 = .local → scope.names.lookup x.1 = some .local)
    (h : wpAny M A first (fun x s₁ => wpAny M A (pyIter x) (fun it s₂ => wpAny M A newAcc (fun acc s₃ => wpAny M A (newFunctionEnv scope env.globals cl [] env.qual none .none (some env)) (fun ce s₄ =>
        codeAny M A (.compStart e 0 it acc { ce with scope := relabel scope env }) (endP M A E Q acc ce.locals ce.frame) s₄) E s₃) E s₂) E s₁) E s) : wpAny M A (comprehension e scope env pos newAcc false first none) Q E s := by
  have imp : ∀ {α : Type} {t : Sem α} {P P' : α → Shared → Prop} {s : Shared}, wpAny M A t P E s → (∀ a s, P a s → P' a s) → wpAny M A t P' E s := fun h k => wpAny_mono h k fun _ _ z => z
  unfold comprehension
  rw [c3, c1]
  refine wpAny_bind (imp h fun x s₁ h₁ => wpAny_bind (wpAny_standAt (wpAny_bind (wpAny_of_eq (c2 x) (wpAny_bind (wpAny_holding (imp h₁ fun it s₂ h₂ => ?_)))))))
  refine wpAny_standIf (wpAny_bind (imp h₂ fun acc s₃ h₃ => wpAny_bind (wpAny_pure (wpAny_bind (imp h₃ fun ce s₄ h₄ => ?_)))))
  dsimp only
  have hv : ∀ x ∈ (scope.names.filter fun x => (x.2 == .local || x.2 == .cell) && x.1 != (".0" : Str)).reverse, x.2 = .local → Env.kindOf { ce with scope := relabel scope env } x.1 = some .local :=
    fun x hx hl => lookup_relabel_local (c5 x (List.mem_filter.mp (List.mem_reverse.mp hx)).1 hl)
  refine wpAny_holding (wpAny_bind (wpAny_attempt (wpAny_holding (wpAny_run (codeAny_mono h₄ fun r s' ⟨m, hn, hr⟩ => ?_)))))
  cases r with
  | ok f => exact wpAny_bind (wpAny_holding (wpAny_comp_letGo (cenv := { ce with scope := relabel scope env }) c4 _ s' m hv hn fun h' m' _ hs' => wpAny_pure (hr h' hs')))
  | error x => exact wpAny_bind (wpAny_holding (wpAny_comp_letGo (cenv := { ce with scope := relabel scope env }) c4 _ s' m hv hn fun h' m' _ hs' => wpAny_mono (hr h' hs' { ce with scope := relabel scope env } rfl) (fun _ _ f => f.elim) fun _ _ y => y))
end
/-! ### the block's context that lets calls' exceptions out -/
def Xi (Y : Cx) (E : XK) : Value → Shared → Prop := fun u s' => ∃ pins σ H s, Inv Y pins σ H s ∧ L2.CX Y.prog Y.w Y.stack H s E u s'
abbrev outX (Y : Cx) (E : XK) : Cx := { Y with xe := Xi Y E }
section
variable {Y : Cx} {E : XK} {pins : List (Addr × Obj)} {σ : L2.St} {H : Hp} {s : Shared}
theorem okx {e e' : Value → Shared → Prop} (o : Cx.Ok { Y with xe := e }) : Cx.Ok { Y with xe := e' } :=
  ⟨o.mod, o.kind, o.glob, o.blt, o.above, o.inj, o.has, o.cab, o.hd, o.frames, o.stk, o.exf, o.bs, o.bsz, o.noex, o.exfs, o.funs, o.frf⟩
theorem invx {e e' : Value → Shared → Prop} (I : Inv { Y with xe := e } pins σ H s) : Inv { Y with xe := e' } pins σ H s := ⟨okx I.ok, I.os, I.bare, I.base, I.loc, I.cell, I.free, I.freeC, I.pin, I.hok, I.len⟩
theorem passXi (σ : L2.St) : PassesAt (L2.CX Y.prog Y.w) (outX Y E) σ E := fun pins H s e s' I c => ⟨pins, σ, H, s, invx I, c⟩
end
theorem cx_loop {Y : Cx} {elt tg iter : Expr} {ifs : List Expr} {scope : Scope} {pos : Pos} {it D : Addr} {fp : List Addr} {tn : Nat → Heap → Prop} {J : It} {gt : TG} {tt : TT} {te : TE} {σ : L2.St} {vs : List Nat} {R : Result → Shared → Prop} {W : Nat → Nat → Hp → Prop}
    (hc : Y.calm = true) (hw : L2.wipe σ vs = σ) (T : Turn Y.prog Y.w Y.K tg J fp it tn) (stat : ∀ {σ' : L2.St} {H' : Hp} {s' : Shared}, Inv Y [] σ' H' s' → (∀ b ∈ fp, H' b = none) → ∀ b ∈ fp, FpOk Y [] H' b) (pg : PG Y tg gt) (pt : PTs Y ifs tt) (pe : PE Y elt te)
    (hx : ∀ u s', Y.xe u s' → notedBy (model Y.prog Y.w) Y.A Y.env (fun e s'' => R (.error e) s'') u s')
    (turn : ∀ i m H, W i m H → (J.stop i H ∧ ∀ s', Inv Y [] σ H s' → R (.ok .next) s') ∨ (J.go i H ∧ ∃ Nx : Hp → Prop, (∀ H', Nx H' → ∃ m', m' < m ∧ W (i + 1) m' H') ∧ ∀ x H', J.yld i H x H' → gt x σ H' fun σ2 H2 => L2.wipe σ2 vs = σ ∧ tt σ2 H2 fun b H3 =>
      if b = true then te σ2 H3 fun y H4 => ∃ acc, H4 D = some (.lst acc) ∧ acc.length < sizeLine ∧ Nx (upd H4 D (.lst (acc ++ [y]))) else Nx H3))
    (m : Nat) (s : Shared) (H : Hp) (hW : W 0 m H) (I : Inv Y [] σ H s) (st : tn 0 s.heap) (nf : ∀ b ∈ fp, H b = none) :
    codeAny (model Y.prog Y.w) Y.A (.compLoop (.ListComp elt [⟨tg, iter, ifs, 0⟩] scope pos) 0 (.ref it) (.ref D) Y.env) R s := by
  refine compLoop_any (fun n s' => ∃ i H', Inv Y [] σ H' s' ∧ tn i s'.heap ∧ (∀ b ∈ fp, H' b = none) ∧ W i n H') ?_ m ⟨0, H, I, st, nf, hW⟩
  rintro n s5 ⟨i, H5, I5, st5, n5, w5⟩
  rcases turn i n H5 w5 with ⟨stop, qq⟩ | ⟨go, Nx, hNx, step⟩
  · refine thnF (T.done Y rfl rfl rfl hc i [] s5 _ H5 (fun _ _ => False) I5 (stat I5 n5) st5 stop) fun r s6 ⟨hr, I6⟩ => ?_
    subst hr
    exact qq s6 I6
  · refine thnF (T.item Y rfl rfl rfl hc i [] s5 _ H5 (fun _ _ => False) I5 (stat I5 n5) st5 go) fun r s6 ⟨u, hr, h6⟩ => ?_
    subst hr
    refine thnF h6 fun _ s7 ⟨x, H7, I7, r7, y7, st7, n7⟩ => ?_
    have J7 := I7.pinned (stat I7 n7) (T.obj _ _ st7)
    refine wpAny_mono (pg.run _ s7 _ H7 x u _ J7 r7 (step x H7 y7)) (fun _ s8 ⟨σ8, H8, I8, hw8, q8⟩ => ?_) hx
    refine wpAny_mono (pt.run _ s8 σ8 H8 _ I8 q8) (fun b s9 ⟨H9, I9, q9⟩ => ?_) hx
    have next : ∀ {s' : Shared} {H' : Hp}, Inv Y ([] ++ pinsAt fp s7.heap) σ8 H' s' → Nx H' → ∃ m, m < n ∧ ∃ i H', Inv Y [] σ H' s' ∧ tn i s'.heap ∧ (∀ b ∈ fp, H' b = none) ∧ W i m H' := fun {s' H'} I' nx => by
      obtain ⟨m', hm, w'⟩ := hNx H' nx
      have pin' : ∀ b ∈ fp, ∀ o, s7.heap.get? b = some o → s'.heap.get? b = some o ∧ H' b = none := fun b hb o e => ⟨(I'.pin (b, o) (by simp [mem_pinsAt hb e])).1, (I'.pin (b, o) (by simp [mem_pinsAt hb e])).2.1⟩
      have hl : σ.length = σ8.length := by rw [← hw8, wipe_length]
      refine ⟨m', hm, i + 1, H', (I'.unpinned (pins := [])).weak hl (fun j v e => ?_), T.keep _ _ _ st7 fun b hb o e => (pin' b hb o e).1, fun b hb => ?_, w'⟩
      · rw [← hw8] at e
        exact (wipe_some e).1
      · obtain ⟨o, e, _⟩ := T.obj _ _ st7 b hb
        exact (pin' b hb o e).2
    cases b with
    | false => rw [if_neg Bool.false_ne_true] at q9 ⊢; exact next I9 q9
    | true =>
      rw [if_pos rfl] at q9 ⊢
      refine wpAny_mono (pe.run _ s9 σ8 H9 _ I9 q9) (fun z s10 ⟨yv, H10, I10, r10, acc, hD10, hz10, nx⟩ => ?_) hx
      exact app_ok (X := Y) I10 hD10 hz10 r10 fun s11 I11 => next I11 nx
end FL

set_option Elab.async false
set_option linter.all false
set_option maxRecDepth 100000
set_option maxHeartbeats 4000000
/-! FL35: what lands in the def's frame out of a comprehension's block. -/
namespace FL
open PySem PySem.Spec PyProof.Rows L2
theorem held_on {B : Heap} {l : List Env} {a L : Addr} {cls : Value} {d : Option Addr} {M : Model} {A : Around} {E : Value → Shared → Prop} {ce : Env} {s : Shared} {what : String} {P : Value → Shared → Prop} (hf : ce.frame = some L) (hh : HandSPX.HeldZ B l a (Zc cls d) L s.heap)
    (h : ∀ h', HandSPX.HeldZ B l a (Zc cls d) L h' → s.heap.UpToSlots h' → E (.ref a) { s with heap := h' }) : wpAny M A (PySem.passOn what (.ref a) ce : Sem Value) P E s := by
  obtain ⟨k1, k2, k3, oe, vs, T, oT, ts, he, hz, hd, h1, hnT, hTe, hT, hdT, h3⟩ := id hh
  unfold PySem.passOn
  refine wpAny_bind (wpAny_field he hd h1 ?_)
  rw [if_neg (show ¬ ((Value.ref T == Value.none) = true) from by simp)]
  rw [hf]
  exact wpAny_bind (HandSPX.setFlight_onZ hh fun h' q up => wpAny_throw (h h' q up))
section
variable {X : Cx} {E : XK} {pins : List (Addr × Obj)} {σ : L2.St} {H3 : Hp} {s3 : Shared}
theorem flies_out {scope : Scope} {ce : Env} {fp : List Addr} {Q : Value → Shared → Prop} {acc : Value} (hs : X.stack = X.env :: X.outer) (hf : X.env.frame = some X.env.locals) (tk : Takes X (fun cls d _ H => E cls d H)) (I : Inv X pins σ H3 s3)
    (f3 : ∀ b ∈ fp, FpOk X pins H3 b ∧ b < s3.heap.objs.size) (cl : ce.locals = s3.heap.objs.size) (cf : ce.frame = X.env.frame) {u : Value} {s' : Shared} (x : Xi (X.blk s3 H3 scope ce fp) E u s') :
    notedBy (model X.prog X.w) X.A ce (fun e s'' => endP (model X.prog X.w) X.A X.xe Q acc s3.heap.objs.size X.env.frame (.error e) s'') u s' := by
  obtain ⟨pY, σY, H', s'', I', a, B, H1, cls, d, rfl, fl, hok, ub, na, os, ag, hE⟩ := x
  have fl : HandSPX.FlyingZ B X.stack a (Zc cls d) s'.heap := fl
  have hfr : X.A.frames = some (X.env :: X.outer) := by rw [← hs]; exact I.ok.frames
  have s3n : s3.heap.get? s3.heap.objs.size = none := by
    cases q : s3.heap.get? s3.heap.objs.size with
    | none => rfl
    | some o => exact absurd (Heap.lt_size q) (Nat.lt_irrefl _)
  have nC : H' s3.heap.objs.size = none := by
    have z : H' ce.locals = none := I'.free
    rwa [cl] at z
  have nF : s3.heap.objs.size ∉ frs X.stack := fun z => by
    obtain ⟨_, o, e, _⟩ := I.stack.mem z
    rw [s3n] at e; cases e
  obtain ⟨m, ⟨oC, es, ep, hC, rC⟩, _⟩ := I'.loc
  have hC : s''.heap.get? ce.locals = some oC := hC
  rw [cl] at hC
  have hCB : B.get? s3.heap.objs.size = some oC := ub.keep _ _ hC nC nF
  rw [hs] at fl
  refine sky_noted (l := []) hfr (cf.trans hf) hf (.inr (.inl fl)) fun h2 hh up => ⟨m, ⟨oC, es, ep, hh.1 _ _ hCB, rC⟩, fun h' sb ce' hce => ?_⟩
  obtain ⟨B', b1, b2, hh'⟩ := held_without hh ⟨_, hCB⟩ sb
  refine held_on (hce.trans hf) hh' fun h3 hh3 up3 => ?_
  have bn : ∀ b o, s3.heap.get? b = some o → b ≠ s3.heap.objs.size := fun b o e z => by rw [z, s3n] at e; cases e
  obtain ⟨G, g1, g2⟩ := restrict h3 fun b => (B'.get? b).isSome || decide (b ∈ frs X.stack)
  have st : B'.StaysIn h3 := hh3.1
  have gB : ∀ b o, B'.get? b = some o → G.get? b = some o := fun b o e => by rw [g1 b (by simp [e])]; exact st b o e
  have gF : ∀ b, b ∈ frs X.stack → G.get? b = h3.get? b := fun b hb => g1 b (by simp [hb])
  have og : ∀ b o, G.get? b = some o → h3.get? b = some o ∧ ((B'.get? b).isSome = true ∨ b ∈ frs X.stack) := fun b o e => by
    cases q : ((B'.get? b).isSome || decide (b ∈ frs X.stack)) with
    | false => rw [g2 b q] at e; cases e
    | true => rw [g1 b q] at e; exact ⟨e, by simpa [Bool.or_eq_true] using q⟩
  have base : Un (frs X.stack) fp H3 H' s3.heap s''.heap := I'.base
  have H1C : H1 s3.heap.objs.size = none := ub.free _ _ hC nC
  have fslot : ∀ b o, s3.heap.get? b = some o → b ∈ frs X.stack → b ∉ fp → ∃ sl, G.get? b = some { o with slots := sl } := fun b o e hb hx => by
    obtain ⟨_, o0, e0, nd⟩ := I.stack.mem hb
    rw [e] at e0; cases e0
    obtain ⟨l1, q1⟩ := base.slot b o e (I.stkFree b hb) hb hx
    obtain ⟨l2, q2⟩ := ub.slot b _ q1 hb
    obtain ⟨l3, q3⟩ := up b _ q2 nd
    have q4 : h'.get? b = some { o with slots := l3 } := (sb.2 b (bn b o e)).trans q3
    obtain ⟨l5, q5⟩ := up3 b _ q4 nd
    exact ⟨l5, by rw [gF b hb]; exact q5⟩
  refine tk _ _ ⟨a, B', { s3 with heap := G, gens := s'.gens, drawn := s'.drawn, toks := s'.toks }, pins, σ, H1, cls, d, rfl, ?_, fun b o e hb => ?_, Heap.UpToSlots.of_keeps fun b o e => (og b o e).1, .inr (.inr (by rw [hs]; exact hh3)), na, os.trans I'.os, ag, hE⟩
  · refine I.call (ch := fp) ⟨fun b o e n hb hx => ?_, fun b o e n hb hx => fslot b o e hb hx, fun b o e n hx => ?_, fun b o e hx => ?_, fun b xs e => ub.tups _ _ (base.tups _ _ e), fun b o u e => ub.frzs _ _ _ (base.frzs _ _ _ e), fun b ps e => ?_⟩ (fun b o q => ?_) ag fun b hb => ⟨(f3 b hb).1.2.2.2.1, (f3 b hb).1.2.1, (f3 b hb).1.2.2.2.2.1, (f3 b hb).1.2.2.2.2.2⟩
    · exact gB b o (b1 b o (bn b o e) (ub.keep b o (base.keep b o e n hb hx) (base.free b o e n hx) hb))
    · obtain ⟨o1, q1⟩ := base.there b o e hx
      exact ub.free b o1 q1 (base.free b o e n hx)
    · by_cases hb : b ∈ frs X.stack
      · obtain ⟨sl, q⟩ := fslot b o e hb hx
        exact ⟨_, q⟩
      · obtain ⟨o1, q1⟩ := base.there b o e hx
        obtain ⟨o2, q2⟩ := ub.there b o1 q1 hb
        exact ⟨o2, gB b o2 (b1 b o2 (bn b o e) q2)⟩
    · obtain ⟨m1, q1⟩ := base.tbls b ps e
      obtain ⟨m2, q2⟩ := ub.tbls b _ q1
      exact ⟨m1 ++ m2, by rw [q2, Array.append_assoc]⟩
    · refine (hok b o q).stay (fun c u hc r => gB c u (b1 c u (fun z => ?_) r)) (fun _ z => z) fun _ _ z => z
      rcases hc with hc | hc
      · rw [← hc, z, H1C] at q; cases q
      · rw [z, H1C] at hc; cases hc
  · obtain ⟨e', h⟩ := og b o e
    rcases h with h | h
    · obtain ⟨o', q⟩ := Option.isSome_iff_exists.mp h
      have z := st b o' q
      rw [e'] at z; cases z
      exact q
    · exact absurd h hb
end
end FL

set_option Elab.async false
set_option linter.all false
set_option maxRecDepth 100000
set_option maxHeartbeats 4000000
/-! FL36: list comprehensions whose parts may raise. -/
namespace FL
open PySem PySem.Spec PyProof.Rows L2
section
variable {X : Cx}
theorem pe_lcx {E : XK} {elt tg iter : Expr} {ifs : List Expr} {scope : Scope} {own : List (Str × Nat)} {pos : Pos} {wi : TI} {g : TG} {tt : TT} {te : TE} (hst : X.stack = X.env :: X.outer) (hfr : X.env.frame = some X.env.locals) (tk : Takes X (fun cls d _ H => E cls d H))
    (hc : X.calm = true) (nd : X.N.Nodup) (hi : PI X tg iter wi) (ok : BlkOk X.N X.env.scope scope own)
    (hg : ∀ s H C cl fp, PG (outX (X.blk s H scope (compEnvC scope cl C X.env) fp) E) tg g) (ht : ∀ s H C cl fp, PTs (outX (X.blk s H scope (compEnvC scope cl C X.env) fp) E) ifs tt)
    (he : ∀ s H C cl fp, PE (outX (X.blk s H scope (compEnvC scope cl C X.env) fp) E) elt te) (hs : ∀ x, foldedSetIterable iter X.env x = pure x := by intro _; rfl) :
    PE X (.ListComp elt [⟨tg, iter, ifs, 0⟩] scope pos) (tLc wi g tt te (own.map (·.2))) := by
  refine ⟨fun pins s σ H Q I h => ?_⟩
  rw [eval_ListComp]
  have cells : ∀ y ∈ scope.names, y.2 = .free → ∃ c, X.env.cells.lookup y.1 = some c := fun y hy e => (ok.free y hy e).elim (fun k => I.ok.has _ (.inl k)) fun k => I.ok.has _ (.inr k)
  refine wp_comp rfl hs (closure_ok cells) ok.kind (fun y hy e => by rw [ok.uniq y hy, e]) (thn (hi.run pins s σ H _ I h) fun xv s1 hx => thn hx fun itv s2 h2 => ?_)
  obtain ⟨it, fp, tn, J, H2, rfl, I2, T, st2, f2, q⟩ := h2
  refine wpAny_newObj_type (newEnv_comp ?_) (by show 0 ≤ sizeLine; decide)
  obtain ⟨W, ⟨m0, w0⟩, turn⟩ := q s2.heap.objs.size (I2.hok.fresh (Nat.le_refl _))
  -- the list is there
  have I3 : Inv X pins σ (upd H2 s2.heap.objs.size (.lst [])) { s2 with heap := s2.heap.push { cls := .type "list", data := .seq ([] : List Value).toArray } } :=
    I2.laid (t' := s2.toks) (fun b o e => Heap.get?_push_of_some _ e) (Nat.le_refl _) ⟨Nat.zero_le _, [], 0, .nil, Heap.get?_push_size _ rfl⟩
  have hp : ({ s2 with heap := s2.heap.push { cls := .type "list", data := .seq ([] : List Value).toArray } } : Shared).heap.objs.size = s2.heap.objs.size + 1 := Heap.size_push ..
  have f3 : ∀ b ∈ fp, FpOk X pins (upd H2 s2.heap.objs.size (.lst [])) b ∧ b < ({ s2 with heap := s2.heap.push { cls := .type "list", data := .seq ([] : List Value).toArray } } : Shared).heap.objs.size := fun b hb => by
    obtain ⟨o, e, _⟩ := T.obj _ _ st2 b hb
    have hlt := Heap.lt_size e
    exact ⟨⟨by rw [upd_ne (Nat.ne_of_lt hlt)]; exact (f2 b hb).1, (f2 b hb).2⟩, by rw [hp]; exact Nat.lt_succ_of_lt hlt⟩
  have st3 : tn 0 ({ s2 with heap := s2.heap.push { cls := .type "list", data := .seq ([] : List Value).toArray } } : Shared).heap := T.keep _ _ _ st2 fun b _ o e => Heap.get?_push_of_some _ e
  generalize hD : s2.heap.objs.size = D at *
  generalize ({ s2 with heap := s2.heap.push { cls := .type "list", data := .seq ([] : List Value).toArray } } : Shared) = s3 at *
  generalize upd H2 D (.lst []) = H3 at *
  have I4 := block_start I3 ok nd f3
  have pg := hg s3 H3 s3.heap.objs.size (cellsFrom (s3.heap.objs.size + 1) scope.names (cloFrom X.env.cells scope.names [])) fp
  have pt := ht s3 H3 s3.heap.objs.size (cellsFrom (s3.heap.objs.size + 1) scope.names (cloFrom X.env.cells scope.names [])) fp
  have pe := he s3 H3 s3.heap.objs.size (cellsFrom (s3.heap.objs.size + 1) scope.names (cloFrom X.env.cells scope.names [])) fp
  show codeAny _ _ (.compStart (.ListComp elt [⟨tg, iter, ifs, 0⟩] scope pos) 0 (.ref it) (.ref D) (compEnvC scope (cellsFrom (s3.heap.objs.size + 1) scope.names (cloFrom X.env.cells scope.names [])) s3.heap.objs.size X.env)) (endP (model X.prog X.w) X.A X.xe _ (.ref D) s3.heap.objs.size X.env.frame) { s3 with heap := pushCells (s3.heap.push { cls := .type "dict", data := .dict #[] }) scope.names }
  have cl : (compEnvC scope (cellsFrom (s3.heap.objs.size + 1) scope.names (cloFrom X.env.cells scope.names [])) s3.heap.objs.size X.env).locals = s3.heap.objs.size := rfl
  have cf : (compEnvC scope (cellsFrom (s3.heap.objs.size + 1) scope.names (cloFrom X.env.cells scope.names [])) s3.heap.objs.size X.env).frame = X.env.frame := rfl
  have st4 : tn 0 ({ s3 with heap := pushCells (s3.heap.push { cls := .type "dict", data := .dict #[] }) scope.names } : Shared).heap := T.keep _ _ _ st3 fun b _ o e => pushCells_keeps _ _ _ _ (Heap.get?_push_of_some _ e)
  generalize compEnvC scope (cellsFrom (s3.heap.objs.size + 1) scope.names (cloFrom X.env.cells scope.names [])) s3.heap.objs.size X.env = ce at I4 pg pt pe cl cf ⊢
  generalize ({ s3 with heap := pushCells (s3.heap.push { cls := .type "dict", data := .dict #[] }) scope.names } : Shared) = s4 at I4 st4 ⊢
  refine codeAny_compStart_list ?_ (T.self X.A 0 _ _ _ st4 ?_) <;>
  · refine cx_loop (Y := outX (X.blk s3 H3 scope ce fp) E) (σ := L2.wipe σ (own.map (·.2))) (vs := own.map (·.2)) (W := W) hc (wipe_agr (is := []) ⟨rfl, fun _ _ => rfl⟩ (fun _ z => nomatch z)) T (fun {σ' H' s'} I' hn b hb => ?_) pg pt pe (fun u s' x => flies_out hst hfr tk I3 f3 cl cf x) (fun i m H5 w5 => ?_) m0 s4 H3 w0 (invx I4) st4 (fun b hb => (f3 b hb).1.1)
    · exact ⟨hn b hb, (I'.ok.exf b hb).1, I'.ok.exfs b hb, .inl hb, fun x c e => (I'.ok.exf b hb).2 x c e, fun p hp => absurd (show p ∈ ([] : List (Addr × Obj)) ++ [] from hp) (by simp)⟩
    · rcases turn i m H5 w5 with ⟨stop, qq⟩ | ⟨go, Nx, hNx, step⟩
      · refine .inl ⟨stop, fun s' I' => ?_⟩
        have I7 : Inv X pins σ H5 s' := I3.call' (ch := fp) I'.os I'.base I'.hok I'.bare fun b hb => ⟨(f3 b hb).1.2.2.2.1, (f3 b hb).1.2.1, (f3 b hb).1.2.2.2.2.1, (f3 b hb).1.2.2.2.2.2⟩
        have nC : H5 s3.heap.objs.size = none := by
          have z : H5 ce.locals = none := I'.free
          rwa [cl] at z
        obtain ⟨m, hn, _⟩ := I'.loc
        have hn : s'.heap.Ns ce.locals m := hn
        rw [cl] at hn
        obtain ⟨k0, k1, k2, k3, k4, k5⟩ := I3.fpOk (H' := H5) (Nat.le_refl _) nC
        exact ⟨m, hn, fun h' sb => ⟨.ref D, H5, I7.turned (t' := s'.toks) (fun b o hb e => (sb.2 b hb).trans e) k0 k1 k3 k4 k5, rfl, qq⟩⟩
      · exact .inr ⟨go, Nx, hNx, step⟩
end
def blkXC (c : SC) (scope : Scope) : SC := { c with sc := relS scope c.sc, st := fun x => !(x == "") && (scope.names.lookup x == some .local || scope.names.lookup x == some .cell) }
theorem in_blkX {c : SC} {X : Cx} {scope : Scope} (h : In c X) (s : Shared) (H : Hp) (C : Addr) (cl : List (Str × Addr)) (fp : List Addr) : In (blkXC c scope) (outX (X.blk s H scope (compEnvC scope cl C X.env) fp) c.E) where
  P := h.P
  w := h.w
  K := h.K
  mg := h.mg
  base := h.base
  N := h.N
  sc := (in_blk h s H C cl fp).sc
  calm := h.calm
  room := h.room
  tk := fun z => absurd z (by simp [blkXC])
  pa := passXi
  fn := (in_blk h s H C cl fp).fn
  po := fun z => absurd z (by simp [blkXC])
  code := h.code
end FL

set_option Elab.async false
set_option linter.all false
set_option maxRecDepth 100000
set_option maxHeartbeats 4000000
/-! FL37: list comprehensions whose parts may raise, by values. -/
namespace FL
open PySem PySem.Spec PyProof.Rows L2
def lcDX (vs : List Nat) (bd : D → De → Option De) (tt : M Bool) (fe : M D) : List D → M (List D)
  | [], δ => some (.ok [] δ)
  | x :: r, δ => if noOwn δ vs then match bd x (wipeD δ vs) with
    | none => none
    | some δ1 => match tt δ1 with
      | none => none
      | some (.ex k) => some (.ex k)
      | some (.ok false δ2) => lcDX vs bd tt fe r (restD δ δ2 vs)
      | some (.ok true δ2) => match fe δ2 with
        | none => none
        | some (.ex k) => some (.ex k)
        | some (.ok y δ3) => match lcDX vs bd tt fe r (restD δ δ3 vs) with
          | none => none
          | some (.ex k) => some (.ex k)
          | some (.ok ys δ4) => some (.ok (y :: ys) δ4)
    else none
def lcMX (vs : List Nat) (bd : D → De → Option De) (tt : M Bool) (fe : M D) (items : M (List D)) : M D :=
  bindM items fun ds => if ds.length < 1000000 then bindM (lcDX vs bd tt fe ds) fun ys => pureM (.lst ys) else fun _ => none
theorem lcDX_of {vs : List Nat} {bd : D → De → Option De} {tt : M Bool} {fe : M D} : ∀ {ds : List D} {δ : De} {r : R (List D)}, lcD vs bd tt fe ds δ = some r → lcDX vs bd tt fe ds δ = some r
  | [], _, _, h => h
  | x :: ds, δ, r, h => by
    rw [lcD] at h
    rw [lcDX]
    split at h
    · rename_i hn
      rw [if_pos hn]
      cases hb : bd x (wipeD δ vs) with
      | none => rw [hb] at h; cases h
      | some δ1 =>
        rw [hb] at h
        dsimp only at h ⊢
        cases ht : tt δ1 with
        | none => rw [ht] at h; cases h
        | some r1 =>
          rw [ht] at h
          cases r1 with
          | ex k => cases h
          | ok b δ2 =>
            cases b with
            | false => exact lcDX_of h
            | true =>
              dsimp only at h ⊢
              cases hf : fe δ2 with
              | none => rw [hf] at h; cases h
              | some r2 =>
                rw [hf] at h
                cases r2 with
                | ex k => cases h
                | ok y δ3 =>
                  dsimp only at h ⊢
                  cases hr : lcD vs bd tt fe ds (restD δ δ3 vs) with
                  | none => rw [hr] at h; cases h
                  | some r3 =>
                    rw [hr] at h
                    rw [lcDX_of hr]
                    cases r3 with
                    | ex k => cases h
                    | ok ys δ4 => exact h
    · cases h
theorem lcMX_of {vs : List Nat} {bd : D → De → Option De} {tt : M Bool} {fe : M D} {items : M (List D)} {δ : De} {r : R D} (h : lcM vs bd tt fe items δ = some r) : lcMX vs bd tt fe items δ = some r := by
  unfold lcM bindM at h
  unfold lcMX bindM
  cases hi : items δ with
  | none => rw [hi] at h; cases h
  | some ri =>
    rw [hi] at h
    cases ri with
    | ex k => exact h
    | ok ds δ1 =>
      dsimp only at h ⊢
      by_cases hl : ds.length < 1000000
      · rw [if_pos hl] at h ⊢
        cases hd : lcD vs bd tt fe ds δ1 with
        | none => simp only [hd] at h; cases h
        | some rd =>
          simp only [hd] at h
          simp only [lcDX_of hd]
          exact h
      · rw [if_neg hl] at h; cases h
theorem sp_lcx {K : PySem.W.Frag} {T : Tb} {cl : Nat → Addr} {E : XK} {wi : TI} {g : TG} {t : TT} {te : TE} {items : M (List D)} {is vs : List Nat} {bd : D → De → Option De} {tt : M Bool} {fe : M D}
    (si : Sp2 (K, T) cl E (Walks K) wi items) (sg : ∀ F σ G H δ v d δ', S (K, T) F σ G H δ → Rep K G v d → bd d δ = some δ' → ∀ Q, (∀ σ', S (K, T) F σ' G H δ' → Agr is σ σ' → Q σ' H) → g v σ H Q)
    (st : Sp2 (K, T) cl E RepB t tt) (se : Sp2 (K, T) cl E (Rep K) te fe) (his : ∀ i ∈ is, i ∈ vs) :
    Sp2 (K, T) cl E (Rep K) (tLc wi g t te vs) (lcMX vs bd tt fe items) := by
  intro F σ G H δ r s e Q p
  refine si.step s e p fun G1 H1 δ1 J ds s1 g1 W e1 p1 => ?_
  split at e1
  · rename_i hlen
    intro D hD
    have fD : F D = none := s1.frm.free hD
    have out : ∀ {G' : Hp} {accV : List V} {k : Nat}, Same G1 G' → lcDX vs bd tt fe ds δ1 = some (.ex k) → ∀ G2 H', Same G' G2 → Same G2 H' → Same (upd F D (.lst accV)) H' → LamX.Tabs T.1 H' → E (.ref (cl k)) none H' := fun {G' accV k} g hk G2 H' a b cF d => by
      rw [bindM_ex hk] at e1
      cases e1
      refine p1 G2 H' (g.trans a) b (fun x o ex => cF x o ?_) d
      rw [upd_ne (ne_of_none ex fD)]; exact ex
    cases hlc : lcDX vs bd tt fe ds δ1 with
    | none => unfold bindM at e1; rw [hlc] at e1; cases e1
    | some rr =>
      refine ⟨fun i m H => m = ds.length - i ∧ i ≤ ds.length ∧ ∃ G2 δ2 accV accD rs, Same G1 G2 ∧ S (K, T) (upd F D (.lst accV)) σ G2 H δ2 ∧ RepL K G2 accV accD ∧ accD.length ≤ i ∧ lcDX vs bd tt fe (ds.drop i) δ2 = some rs ∧
          (match rs with | .ok ys δf => rr = .ok (accD ++ ys) δf | .ex k => rr = .ex k),
        ⟨ds.length, by simp, Nat.zero_le _, G1, δ1, [], [], rr, Same.refl _, s1.enter hD, .nil, Nat.zero_le _, hlc, by cases rr <;> rfl⟩, ?_⟩
      rintro i m H2 ⟨rfl, hi, G2, δ2, accV, accD, rs, g2, s2, ra, hla, e2, ey⟩
      by_cases hl : i < ds.length
      · have hd : ds[i]? = some ds[i] := List.getElem?_eq_getElem hl
        rw [List.drop_eq_getElem_cons hl, lcDX] at e2
        split at e2
        · rename_i hno
          refine .inr ⟨W.go _ _ σ G2 H2 δ2 i g2 s2 hl, fun H' => ∃ G5 δ5 accV' accD' rs', Same G1 G5 ∧ S (K, T) (upd F D (.lst accV')) σ G5 H' δ5 ∧ RepL K G5 accV' accD' ∧ accD'.length ≤ i + 1 ∧ lcDX vs bd tt fe (ds.drop (i + 1)) δ5 = some rs' ∧
              (match rs' with | .ok ys δf => rr = .ok (accD' ++ ys) δf | .ex k => rr = .ex k),
            fun H' z => ⟨ds.length - (i + 1), by omega, rfl, hl, z⟩, fun x H3 hy => ?_⟩
          obtain ⟨G3, s3, g3, rx⟩ := W.yld _ _ (wipe σ vs) G2 H2 (wipeD δ2 vs) i x H3 _ g2 (s2.wipes vs) hy hd
          cases hbd : bd ds[i] (wipeD δ2 vs) with
          | none => rw [hbd] at e2; cases e2
          | some δ3 =>
            rw [hbd] at e2
            dsimp only at e2
            refine sg _ (wipe σ vs) G3 H3 _ x _ δ3 s3 rx hbd _ fun σ3 s4 ag => ⟨wipe_agr ag his, ?_⟩
            have g23 : Same G2 G3 := g3
            have agr3 : ∀ j, j ∉ vs → σ3[j]? = σ[j]? := fun j hj => by
              rw [ag.2 j fun z => hj (his j z), wipe_get, if_neg hj]
            have len3 : σ3.length = σ.length := ag.1.trans (wipe_length _ _)
            cases ht : tt δ3 with
            | none => rw [ht] at e2; cases e2
            | some rt =>
              rw [ht] at e2
              refine st _ σ3 G3 H3 δ3 _ s4 ht _ ?_
              cases rt with
              | ex k =>
                cases e2
                exact out (g2.trans g23) (by rw [hlc, ey])
              | ok b δ4 =>
                refine fun G4 H4 b' s5 g4 rb => ?_
                have eb : b' = b := rb
                subst eb
                cases b' with
                | false =>
                  dsimp only at e2 ⊢
                  rw [if_neg Bool.false_ne_true]
                  exact ⟨G4, _, accV, accD, rs, g2.trans (g23.trans g4), s5.unblock s2 (g23.trans g4) agr3 len3 hno, ra.mono (g23.trans g4), by omega, e2, ey⟩
                | true =>
                  dsimp only at e2 ⊢
                  rw [if_pos rfl]
                  cases hf : fe δ4 with
                  | none => rw [hf] at e2; cases e2
                  | some rf =>
                    rw [hf] at e2
                    refine se _ σ3 G4 H4 δ4 _ s5 hf _ ?_
                    cases rf with
                    | ex k =>
                      cases e2
                      exact out (g2.trans (g23.trans g4)) (by rw [hlc, ey])
                    | ok y δ5 =>
                      dsimp only at e2
                      refine fun G5 H5 v s6 g5 ry => ?_
                      have g25 : Same G2 G5 := g23.trans (g4.trans g5)
                      cases hr : lcDX vs bd tt fe (ds.drop (i + 1)) (restD δ2 δ5 vs) with
                      | none => rw [hr] at e2; cases e2
                      | some rr2 =>
                        rw [hr] at e2
                        refine ⟨accV, s6.frm D _ upd_same, by rw [ra.length]; rw [sizeLine_eq]; omega, G5, restD δ2 δ5 vs, accV ++ [v], accD ++ [y], rr2, g2.trans g25, (s6.unblock s2 g25 agr3 len3 hno).relist, (ra.mono g25).append (.cons ry .nil), by rw [List.length_append]; simp; omega, hr, ?_⟩
                        cases rr2 with
                        | ex k => cases e2; exact ey
                        | ok ys2 δ6 => cases e2; dsimp only at ey ⊢; rw [ey, List.append_assoc]; rfl
        · cases e2
      · have ei : i = ds.length := by omega
        subst ei
        rw [List.drop_length] at e2
        cases e2
        have gd : G2 D = none := s2.dis D _ upd_same
        refine .inl ⟨W.stop _ _ σ G2 H2 _ _ g2 s2 (Nat.le_refl _), ?_⟩
        dsimp only at ey
        rw [List.append_nil] at ey
        subst ey
        rw [bindM_ok hlc] at e1
        cases e1
        exact p1 (upd G2 D (.lst accV)) H2 _ (s2.leave fD) (g2.trans (same_upd gd)) (.lst upd_same (ra.mono (same_upd gd)))
  · cases e1
section
variable {c : SC}
theorem fe_lcx {elt tg iter : Expr} {ifs : List Expr} {scope : Scope} (own : List (Str × Nat)) {pos : Pos} {items : M (List D)} {is : List Nat} {bd : D → De → Option De} {tt : M Bool} {fe : M D} (nd : c.N.Nodup) (hi : FI c tg iter items) (ok : blkC c.N c.sc scope own = true)
    (hg : FG (blkXC c scope) tg is bd) (ht : FTs (blkXC c scope) ifs tt) (he : FE (blkXC c scope) elt fe) (his : ∀ i ∈ is, i ∈ own.map (·.2)) (hs : ∀ (env : Env) x, foldedSetIterable iter env x = pure x := by intro _ _; rfl) (hs0 : c.st "" = true := by rfl) :
    FE c (.ListComp elt [⟨tg, iter, ifs, 0⟩] scope pos) (lcMX (own.map (·.2)) bd tt fe items) := by
  obtain ⟨wi, pi, si⟩ := hi.ex
  obtain ⟨g, pg, sg⟩ := hg.ex
  obtain ⟨t, pt, st⟩ := ht.ex
  obtain ⟨te, pe, se⟩ := he.ex
  exact ⟨_, fun X h => pe_lcx (h.tk hs0).2.1 (h.tk hs0).2.2 (h.tk hs0).1 h.calm (by rw [h.N]; exact nd) (pi X h) (by rw [h.N, h.sc]; exact blkOk_by ok) (fun s H C cl fp => pg _ (in_blkX h s H C cl fp)) (fun s H C cl fp => pt _ (in_blkX h s H C cl fp)) (fun s H C cl fp => pe _ (in_blkX h s H C cl fp)) (hs _), sp_lcx si sg st se his⟩
end
end FL

set_option Elab.async false
set_option linter.all false
set_option maxRecDepth 100000
set_option maxHeartbeats 2000000
namespace V
open PySem PySem.Spec PyProof.Rows L2 FL
def topS (i : Nat) : Stmt := PySem.Challenge.pw_voicewright_k07_tunes_that_follow_themse.main.body.getD i (.Pass ⟨0, 0, 0, 0⟩)
structure TX (K : PySem.W.Frag) (mg : Str → Option Value) (cl : Nat → Addr) : Prop where
  b_abs : mg "abs" = none
  b_any : mg "any" = none
  b_int : mg "int" = none
  b_len : mg "len" = none
  b_list : mg "list" = none
  b_range : mg "range" = none
  b_sum : mg "sum" = none
  b_tuple : mg "tuple" = none
  b_zip : mg "zip" = none
  c_MOST : Const K mg "MOST" (.int 120)
  c_PERFECT : Const K mg "PERFECT" (.tup [.int 0, .int 7])
  c_SOFT : Const K mg "SOFT" (.tup [.int 3, .int 4, .int 8, .int 9])
  x_BadNote : ExcC K mg "BadNote" (cl 1)
  x_BadSize : ExcC K mg "BadSize" (cl 6)
abbrev s_check_note : Stmt := topS 13
abbrev s_size : Stmt := topS 18
abbrev s_overlap : Stmt := topS 24
abbrev s_backwards : Stmt := topS 29
abbrev s__law_dice : Stmt := topS 37
abbrev s__law_sounds : Stmt := topS 41
abbrev s_turned : Stmt := topS 14
abbrev s_simple : Stmt := topS 19
abbrev s_move_cost : Stmt := topS 33
abbrev s_goes_together : Stmt := topS 20
abbrev s_is_perfect : Stmt := topS 21
abbrev s_mirrored : Stmt := topS 28
abbrev s_tune_cost : Stmt := topS 34
abbrev s_runs_alike : Stmt := topS 22
abbrev s_may_sound : Stmt := topS 25
abbrev s_follows_at : Stmt := topS 26
abbrev s_mirror_follows : Stmt := topS 30
abbrev s_crab : Stmt := topS 32
abbrev s_round_may : Stmt := topS 35
abbrev s_all_canons : Stmt := topS 27
abbrev s_all_mirrors : Stmt := topS 31
abbrev s_law : Stmt := topS 42
abbrev s__law_roll : Stmt := topS 38
abbrev s__law_rounds : Stmt := topS 39
abbrev s__law_told : Stmt := topS 40
theorem sc_check_note : FnScope ["note"] ["note"] (defScope s_check_note) := ⟨rfl, rfl, rfl, by decide +kernel, rfl, by decide +kernel, by decide +kernel⟩
def b_check_note : Fo := (seqS (thenS (bindM (tst (chainM leD leD (pureM (.int 0)) (varM 0) (pureM (.int 120)))) fun k => pureM (!k)) fun k => if k then (fun _ => some (.ex 1)) else nxS) (thenS (varM 0) fun d _ => some (.rt d)))
def F_check_note : DF := defF ["note"] 1 b_check_note
theorem fs_check_note {P : Program} {w : World} {K : PySem.W.Frag} {mg : Str → Option Value} {base : Heap} {cl : Nat → Addr} {TB : List (Addr × Str)} (T : TX K mg cl)   (E : XK) : FS ⟨P, w, K, mg, base, ["note"], defScope s_check_note, 0, cl, E, fun _ => true, (TB, false), .none, ""⟩ (defBody s_check_note) b_check_note :=
  (fs_cons (fs_if (ft_not (ft_lele fe_int (fe_var 0) (fe_const T.c_MOST))) (fs_one (fs_raise 1 T.x_BadNote)) fs_nil) (fs_one (fs_ret (fe_var 0))))
theorem fn_check_note {P : Program} {w : World} {K : PySem.W.Frag} {mg : Str → Option Value} {base : Heap} {cl : Nat → Addr} {TB : List (Addr × Str)} {a : Addr} {fd : FuncData} (T : TX K mg cl)   (Fn : FunQ K "check_note" "check_note" s_check_note a fd .none "") (hm : mg "check_note" = some (.ref a)) (hb : Binds K fd ["note"] []) : FnD P w K mg base cl TB 1 "check_note" F_check_note :=
  fnD Fn sc_check_note hm hb (by decide) (fs_check_note T )
theorem sc_size : FnScope ["one", "other"] ["one", "other"] (defScope s_size) := ⟨rfl, rfl, rfl, by decide +kernel, rfl, by decide +kernel, by decide +kernel⟩
def b_size : Fo := (thenS (callB absD (consM (bin2 subD (varM 1) (varM 0)) (pureM []))) fun d _ => some (.rt d))
def F_size : DF := defF ["one", "other"] 2 b_size
theorem fs_size {P : Program} {w : World} {K : PySem.W.Frag} {mg : Str → Option Value} {base : Heap} {cl : Nat → Addr} {TB : List (Addr × Str)} (T : TX K mg cl)   (E : XK) : FS ⟨P, w, K, mg, base, ["one", "other"], defScope s_size, 0, cl, E, fun _ => true, (TB, false), .none, ""⟩ (defBody s_size) b_size :=
  (fs_one (fs_ret (fe_abs T.b_abs (fa_cons (fe_sub (fe_var 1) (fe_var 0)) fa_nil))))
theorem fn_size {P : Program} {w : World} {K : PySem.W.Frag} {mg : Str → Option Value} {base : Heap} {cl : Nat → Addr} {TB : List (Addr × Str)} {a : Addr} {fd : FuncData} (T : TX K mg cl)   (Fn : FunQ K "size" "size" s_size a fd .none "") (hm : mg "size" = some (.ref a)) (hb : Binds K fd ["one", "other"] []) : FnD P w K mg base cl TB 1 "size" F_size :=
  fnD Fn sc_size hm hb (by decide) (fs_size T )
theorem sc_overlap : FnScope ["tune", "other", "delay"] ["tune", "other", "delay"] (defScope s_overlap) := ⟨rfl, rfl, rfl, by decide +kernel, rfl, by decide +kernel, by decide +kernel⟩
def b_overlap : Fo := (seqS (thenS (tst (bin2 ltD (varM 2) (pureM (.int 0)))) fun k => if k then (fun _ => some (.ex 6)) else nxS) (thenS (tupZipM (consM (bindM (varM 0) fun d => bindM (intM (varM 2)) fun l => bindM (pureM none) fun h => liftO (slD d l h)) (consM (varM 1) (pureM [])))) fun d _ => some (.rt d)))
def F_overlap : DF := defF ["tune", "other", "delay"] 3 b_overlap
theorem fs_overlap {P : Program} {w : World} {K : PySem.W.Frag} {mg : Str → Option Value} {base : Heap} {cl : Nat → Addr} {TB : List (Addr × Str)} (T : TX K mg cl)   (E : XK) : FS ⟨P, w, K, mg, base, ["tune", "other", "delay"], defScope s_overlap, 0, cl, E, fun _ => true, (TB, false), .none, ""⟩ (defBody s_overlap) b_overlap :=
  (fs_cons (fs_if (ft_lt (fe_var 2) fe_int) (fs_one (fs_raise 6 T.x_BadSize)) fs_nil) (fs_one (fs_ret (fe_tupZip T.b_tuple T.b_zip (fa_cons (fe_slice (fe_var 0) (fo_some (fe_var 2)) fo_none) (fa_cons (fe_var 1) fa_nil))))))
theorem fn_overlap {P : Program} {w : World} {K : PySem.W.Frag} {mg : Str → Option Value} {base : Heap} {cl : Nat → Addr} {TB : List (Addr × Str)} {a : Addr} {fd : FuncData} (T : TX K mg cl)   (Fn : FunQ K "overlap" "overlap" s_overlap a fd .none "") (hm : mg "overlap" = some (.ref a)) (hb : Binds K fd ["tune", "other", "delay"] []) : FnD P w K mg base cl TB 1 "overlap" F_overlap :=
  fnD Fn sc_overlap hm hb (by decide) (fs_overlap T )
theorem sc_backwards : FnScope ["tune"] ["tune"] (defScope s_backwards) := ⟨rfl, rfl, rfl, by decide +kernel, rfl, by decide +kernel, by decide +kernel⟩
def b_backwards : Fo := (thenS (callB tupleD (consM (un1 revD (varM 0)) (pureM []))) fun d _ => some (.rt d))
def F_backwards : DF := defF ["tune"] 1 b_backwards
theorem fs_backwards {P : Program} {w : World} {K : PySem.W.Frag} {mg : Str → Option Value} {base : Heap} {cl : Nat → Addr} {TB : List (Addr × Str)} (T : TX K mg cl)   (E : XK) : FS ⟨P, w, K, mg, base, ["tune"], defScope s_backwards, 0, cl, E, fun _ => true, (TB, false), .none, ""⟩ (defBody s_backwards) b_backwards :=
  (fs_one (fs_ret (fe_tuple T.b_tuple (fa_cons (fe_rev (fe_var 0)) fa_nil))))
theorem fn_backwards {P : Program} {w : World} {K : PySem.W.Frag} {mg : Str → Option Value} {base : Heap} {cl : Nat → Addr} {TB : List (Addr × Str)} {a : Addr} {fd : FuncData} (T : TX K mg cl)   (Fn : FunQ K "backwards" "backwards" s_backwards a fd .none "") (hm : mg "backwards" = some (.ref a)) (hb : Binds K fd ["tune"] []) : FnD P w K mg base cl TB 1 "backwards" F_backwards :=
  fnD Fn sc_backwards hm hb (by decide) (fs_backwards T )
theorem sc__law_dice : FnScope ["cell"] ["cell"] (defScope s__law_dice) := ⟨rfl, rfl, rfl, by decide +kernel, rfl, by decide +kernel, by decide +kernel⟩
def b__law_dice : Fo := (seqS (thenS (tst (chainM ltD ltD (bin2 subD (pureM (.int 0)) (pureM (.int 10))) (varM 0) (pureM (.int 10)))) fun k => if k then (thenS (lstM (consM (callB absD (consM (varM 0) (pureM []))) (consM (pureM (.int 0)) (consM (pureM (.int 2)) (pureM []))))) fun d _ => some (.rt d)) else nxS) (thenS (lstM (consM (varM 0) (consM (bin2 addD (pureM (.int 1)) (bin2 modD (callB intD (consM (varM 0) (pureM []))) (pureM (.int 1009)))) (consM (callB intD (consM (bin2 geD (varM 0) (bin2 powD (pureM (.int 10)) (pureM (.int 18)))) (pureM []))) (pureM []))))) fun d _ => some (.rt d)))
def F__law_dice : DF := defF ["cell"] 1 b__law_dice
theorem fs__law_dice {P : Program} {w : World} {K : PySem.W.Frag} {mg : Str → Option Value} {base : Heap} {cl : Nat → Addr} {TB : List (Addr × Str)} (T : TX K mg cl)   (E : XK) : FS ⟨P, w, K, mg, base, ["cell"], defScope s__law_dice, 0, cl, E, fun _ => true, (TB, false), .none, ""⟩ (defBody s__law_dice) b__law_dice :=
  (fs_cons (fs_if (ft_ltlt (fe_sub fe_int fe_int) (fe_var 0) fe_int) (fs_one (fs_ret (fe_lst (fa_cons (fe_abs T.b_abs (fa_cons (fe_var 0) fa_nil)) (fa_cons fe_int (fa_cons fe_int fa_nil)))))) fs_nil) (fs_one (fs_ret (fe_lst (fa_cons (fe_var 0) (fa_cons (fe_add fe_int (fe_mod (fe_int1 T.b_int (fa_cons (fe_var 0) fa_nil)) fe_int)) (fa_cons (fe_int1 T.b_int (fa_cons (fe_ge (fe_var 0) (fe_pow fe_int fe_int)) fa_nil)) fa_nil)))))))
theorem fn__law_dice {P : Program} {w : World} {K : PySem.W.Frag} {mg : Str → Option Value} {base : Heap} {cl : Nat → Addr} {TB : List (Addr × Str)} {a : Addr} {fd : FuncData} (T : TX K mg cl)   (Fn : FunQ K "_law_dice" "_law_dice" s__law_dice a fd .none "") (hm : mg "_law_dice" = some (.ref a)) (hb : Binds K fd ["cell"] []) : FnD P w K mg base cl TB 1 "_law_dice" F__law_dice :=
  fnD Fn sc__law_dice hm hb (by decide) (fs__law_dice T )
theorem sc__law_sounds : FnScope ["pairs", "k", "a", "c", "perfect", "b", "d"] ["pairs"] (defScope s__law_sounds) := ⟨rfl, rfl, rfl, by decide +kernel, rfl, by decide +kernel, by decide +kernel⟩
def b__law_sounds : Fo := (seqS (thenS (itM rng1 (consM (callB lenD (consM (varM 0) (pureM []))) (pureM []))) fun ds => forD (bName 1) ((seqS (thenS (bin2 ixD (varM 0) (varM 1)) fun d δ => (bTup (bCons (bName 2) (bCons (bName 3) (bNil))) d δ).map .nx) (seqS (thenS (tst (bin2 (inX true) (bin2 modD (callB absD (consM (bin2 subD (varM 2) (varM 3)) (pureM []))) (pureM (.int 12))) (lstM (consM (pureM (.int 0)) (consM (pureM (.int 3)) (consM (pureM (.int 4)) (consM (pureM (.int 7)) (consM (pureM (.int 8)) (consM (pureM (.int 9)) (pureM [])))))))))) fun k => if k then (thenS (pureM (.bl false)) fun d _ => some (.rt d)) else nxS) (thenS (tst (bin2 gtD (varM 1) (pureM (.int 0)))) fun k => if k then (seqS (thenS (bin2 ixD (varM 0) (bin2 subD (varM 1) (pureM (.int 1)))) fun d δ => (bTup (bCons (bName 5) (bCons (bName 6) (bNil))) d δ).map .nx) (seqS (thenS (bin2 (inX false) (bin2 modD (callB absD (consM (bin2 subD (varM 2) (varM 3)) (pureM []))) (pureM (.int 12))) (lstM (consM (pureM (.int 0)) (consM (pureM (.int 7)) (pureM []))))) fun d δ => some (.nx (δ.set 4 (.val d)))) (thenS (andT (tst (varM 4)) (andT (tst (bin2 eqD (bin2 modD (callB absD (consM (bin2 subD (varM 2) (varM 3)) (pureM []))) (pureM (.int 12))) (bin2 modD (callB absD (consM (bin2 subD (varM 5) (varM 6)) (pureM []))) (pureM (.int 12))))) (andT (tst (bin2 neD (varM 2) (varM 5))) (tst (bin2 neD (varM 3) (varM 6)))))) fun k => if k then (thenS (pureM (.bl false)) fun d _ => some (.rt d)) else nxS))) else nxS)))) ds) (thenS (pureM (.bl true)) fun d _ => some (.rt d)))
def F__law_sounds : DF := defF ["pairs", "k", "a", "c", "perfect", "b", "d"] 1 b__law_sounds
theorem fs__law_sounds {P : Program} {w : World} {K : PySem.W.Frag} {mg : Str → Option Value} {base : Heap} {cl : Nat → Addr} {TB : List (Addr × Str)} (T : TX K mg cl)   (E : XK) : FS ⟨P, w, K, mg, base, ["pairs", "k", "a", "c", "perfect", "b", "d"], defScope s__law_sounds, 0, cl, E, fun _ => true, (TB, false), .none, ""⟩ (defBody s__law_sounds) b__law_sounds :=
  (fs_cons (fs_for (fi_range1 T.b_range (fa_cons (fe_len T.b_len (fa_cons (fe_var 0) fa_nil)) fa_nil)) (fg_name 1 sc__law_sounds.nd) (fs_cons (fs_asg (fe_ix (fe_var 0) (fe_var 1)) (fg_tup (fgs_cons (fg_name 2 sc__law_sounds.nd) (fgs_cons (fg_name 3 sc__law_sounds.nd) fgs_nil)))) (fs_cons (fs_if (ft_notinX (fe_mod (fe_abs T.b_abs (fa_cons (fe_sub (fe_var 2) (fe_var 3)) fa_nil)) fe_int) (fe_lst (fa_cons fe_int (fa_cons fe_int (fa_cons fe_int (fa_cons fe_int (fa_cons fe_int (fa_cons fe_int fa_nil)))))))) (fs_one (fs_ret fe_bl)) fs_nil) (fs_one (fs_if (ft_gt (fe_var 1) fe_int) (fs_cons (fs_asg (fe_ix (fe_var 0) (fe_sub (fe_var 1) fe_int)) (fg_tup (fgs_cons (fg_name 5 sc__law_sounds.nd) (fgs_cons (fg_name 6 sc__law_sounds.nd) fgs_nil)))) (fs_cons (fs_set 4 sc__law_sounds.nd (fe_inX (fe_mod (fe_abs T.b_abs (fa_cons (fe_sub (fe_var 2) (fe_var 3)) fa_nil)) fe_int) (fe_lst (fa_cons fe_int (fa_cons fe_int fa_nil))))) (fs_one (fs_if (ft_w (fw_and (ft_val (fe_var 4)) (fw_and (ft_eq (fe_mod (fe_abs T.b_abs (fa_cons (fe_sub (fe_var 2) (fe_var 3)) fa_nil)) fe_int) (fe_mod (fe_abs T.b_abs (fa_cons (fe_sub (fe_var 5) (fe_var 6)) fa_nil)) fe_int)) (fw_and (ft_ne (fe_var 2) (fe_var 5)) (fw_and1 (ft_ne (fe_var 3) (fe_var 6))))))) (fs_one (fs_ret fe_bl)) fs_nil)))) fs_nil))))) (fs_one (fs_ret fe_bl)))
theorem fn__law_sounds {P : Program} {w : World} {K : PySem.W.Frag} {mg : Str → Option Value} {base : Heap} {cl : Nat → Addr} {TB : List (Addr × Str)} {a : Addr} {fd : FuncData} (T : TX K mg cl)   (Fn : FunQ K "_law_sounds" "_law_sounds" s__law_sounds a fd .none "") (hm : mg "_law_sounds" = some (.ref a)) (hb : Binds K fd ["pairs"] []) : FnD P w K mg base cl TB 1 "_law_sounds" F__law_sounds :=
  fnD Fn sc__law_sounds hm hb (by decide) (fs__law_sounds T )
theorem sc_turned : FnScope ["note", "about"] ["note", "about"] (defScope s_turned) := ⟨rfl, rfl, rfl, by decide +kernel, rfl, by decide +kernel, by decide +kernel⟩
def b_turned : Fo := (thenS (callM F_check_note (consM (bin2 subD (varM 1) (varM 0)) (pureM []))) fun d _ => some (.rt d))
def F_turned : DF := defF ["note", "about"] 2 b_turned
theorem fs_turned {P : Program} {w : World} {K : PySem.W.Frag} {mg : Str → Option Value} {base : Heap} {cl : Nat → Addr} {TB : List (Addr × Str)} (T : TX K mg cl) (d_check_note : FnD P w K mg base cl TB 1 "check_note" F_check_note)  (E : XK) : FS ⟨P, w, K, mg, base, ["note", "about"], defScope s_turned, 1, cl, E, fun _ => true, (TB, false), .none, ""⟩ (defBody s_turned) b_turned :=
  (fs_one (fs_ret (fe_call d_check_note (fa_cons (fe_sub (fe_var 1) (fe_var 0)) fa_nil))))
theorem fn_turned {P : Program} {w : World} {K : PySem.W.Frag} {mg : Str → Option Value} {base : Heap} {cl : Nat → Addr} {TB : List (Addr × Str)} {a : Addr} {fd : FuncData} (T : TX K mg cl) (d_check_note : FnD P w K mg base cl TB 1 "check_note" F_check_note)  (Fn : FunQ K "turned" "turned" s_turned a fd .none "") (hm : mg "turned" = some (.ref a)) (hb : Binds K fd ["note", "about"] []) : FnD P w K mg base cl TB 2 "turned" F_turned :=
  fnD Fn sc_turned hm hb (by decide) (fs_turned T d_check_note)
theorem sc_simple : FnScope ["one", "other"] ["one", "other"] (defScope s_simple) := ⟨rfl, rfl, rfl, by decide +kernel, rfl, by decide +kernel, by decide +kernel⟩
def b_simple : Fo := (thenS (bin2 modD (callM F_size (consM (varM 0) (consM (varM 1) (pureM [])))) (pureM (.int 12))) fun d _ => some (.rt d))
def F_simple : DF := defF ["one", "other"] 2 b_simple
theorem fs_simple {P : Program} {w : World} {K : PySem.W.Frag} {mg : Str → Option Value} {base : Heap} {cl : Nat → Addr} {TB : List (Addr × Str)} (T : TX K mg cl) (d_size : FnD P w K mg base cl TB 1 "size" F_size)  (E : XK) : FS ⟨P, w, K, mg, base, ["one", "other"], defScope s_simple, 1, cl, E, fun _ => true, (TB, false), .none, ""⟩ (defBody s_simple) b_simple :=
  (fs_one (fs_ret (fe_mod (fe_call d_size (fa_cons (fe_var 0) (fa_cons (fe_var 1) fa_nil))) fe_int)))
theorem fn_simple {P : Program} {w : World} {K : PySem.W.Frag} {mg : Str → Option Value} {base : Heap} {cl : Nat → Addr} {TB : List (Addr × Str)} {a : Addr} {fd : FuncData} (T : TX K mg cl) (d_size : FnD P w K mg base cl TB 1 "size" F_size)  (Fn : FunQ K "simple" "simple" s_simple a fd .none "") (hm : mg "simple" = some (.ref a)) (hb : Binds K fd ["one", "other"] []) : FnD P w K mg base cl TB 2 "simple" F_simple :=
  fnD Fn sc_simple hm hb (by decide) (fs_simple T d_size)
theorem sc_move_cost : FnScope ["one", "other"] ["one", "other"] (defScope s_move_cost) := ⟨rfl, rfl, rfl, by decide +kernel, rfl, by decide +kernel, by decide +kernel⟩
def b_move_cost : Fo := (thenS (iteM (tst (bin2 neD (varM 0) (varM 1))) (callM F_size (consM (varM 0) (consM (varM 1) (pureM [])))) (pureM (.int 2))) fun d _ => some (.rt d))
def F_move_cost : DF := defF ["one", "other"] 2 b_move_cost
theorem fs_move_cost {P : Program} {w : World} {K : PySem.W.Frag} {mg : Str → Option Value} {base : Heap} {cl : Nat → Addr} {TB : List (Addr × Str)} (T : TX K mg cl) (d_size : FnD P w K mg base cl TB 1 "size" F_size)  (E : XK) : FS ⟨P, w, K, mg, base, ["one", "other"], defScope s_move_cost, 1, cl, E, fun _ => true, (TB, false), .none, ""⟩ (defBody s_move_cost) b_move_cost :=
  (fs_one (fs_ret (fe_ite (ft_ne (fe_var 0) (fe_var 1)) (fe_call d_size (fa_cons (fe_var 0) (fa_cons (fe_var 1) fa_nil))) fe_int)))
theorem fn_move_cost {P : Program} {w : World} {K : PySem.W.Frag} {mg : Str → Option Value} {base : Heap} {cl : Nat → Addr} {TB : List (Addr × Str)} {a : Addr} {fd : FuncData} (T : TX K mg cl) (d_size : FnD P w K mg base cl TB 1 "size" F_size)  (Fn : FunQ K "move_cost" "move_cost" s_move_cost a fd .none "") (hm : mg "move_cost" = some (.ref a)) (hb : Binds K fd ["one", "other"] []) : FnD P w K mg base cl TB 2 "move_cost" F_move_cost :=
  fnD Fn sc_move_cost hm hb (by decide) (fs_move_cost T d_size)
theorem sc_goes_together : FnScope ["low", "high", "apart"] ["low", "high"] (defScope s_goes_together) := ⟨rfl, rfl, rfl, by decide +kernel, rfl, by decide +kernel, by decide +kernel⟩
def b_goes_together : Fo := (seqS (thenS (callM F_simple (consM (varM 0) (consM (varM 1) (pureM [])))) fun d δ => some (.nx (δ.set 2 (.val d)))) (thenS (orM (bin2 (inX false) (varM 2) (pureM (.tup [.int 0, .int 7]))) (bin2 (inX false) (varM 2) (pureM (.tup [.int 3, .int 4, .int 8, .int 9])))) fun d _ => some (.rt d)))
def F_goes_together : DF := defF ["low", "high", "apart"] 2 b_goes_together
theorem fs_goes_together {P : Program} {w : World} {K : PySem.W.Frag} {mg : Str → Option Value} {base : Heap} {cl : Nat → Addr} {TB : List (Addr × Str)} (T : TX K mg cl) (d_simple : FnD P w K mg base cl TB 2 "simple" F_simple)  (E : XK) : FS ⟨P, w, K, mg, base, ["low", "high", "apart"], defScope s_goes_together, 2, cl, E, fun _ => true, (TB, false), .none, ""⟩ (defBody s_goes_together) b_goes_together :=
  (fs_cons (fs_set 2 sc_goes_together.nd (fe_call d_simple (fa_cons (fe_var 0) (fa_cons (fe_var 1) fa_nil)))) (fs_one (fs_ret (fe_or (fe_inX (fe_var 2) (fe_const T.c_PERFECT)) (fe_one (fe_inX (fe_var 2) (fe_const T.c_SOFT)))))))
theorem fn_goes_together {P : Program} {w : World} {K : PySem.W.Frag} {mg : Str → Option Value} {base : Heap} {cl : Nat → Addr} {TB : List (Addr × Str)} {a : Addr} {fd : FuncData} (T : TX K mg cl) (d_simple : FnD P w K mg base cl TB 2 "simple" F_simple)  (Fn : FunQ K "goes_together" "goes_together" s_goes_together a fd .none "") (hm : mg "goes_together" = some (.ref a)) (hb : Binds K fd ["low", "high"] []) : FnD P w K mg base cl TB 3 "goes_together" F_goes_together :=
  fnD Fn sc_goes_together hm hb (by decide) (fs_goes_together T d_simple)
theorem sc_is_perfect : FnScope ["low", "high"] ["low", "high"] (defScope s_is_perfect) := ⟨rfl, rfl, rfl, by decide +kernel, rfl, by decide +kernel, by decide +kernel⟩
def b_is_perfect : Fo := (thenS (bin2 (inX false) (callM F_simple (consM (varM 0) (consM (varM 1) (pureM [])))) (pureM (.tup [.int 0, .int 7]))) fun d _ => some (.rt d))
def F_is_perfect : DF := defF ["low", "high"] 2 b_is_perfect
theorem fs_is_perfect {P : Program} {w : World} {K : PySem.W.Frag} {mg : Str → Option Value} {base : Heap} {cl : Nat → Addr} {TB : List (Addr × Str)} (T : TX K mg cl) (d_simple : FnD P w K mg base cl TB 2 "simple" F_simple)  (E : XK) : FS ⟨P, w, K, mg, base, ["low", "high"], defScope s_is_perfect, 2, cl, E, fun _ => true, (TB, false), .none, ""⟩ (defBody s_is_perfect) b_is_perfect :=
  (fs_one (fs_ret (fe_inX (fe_call d_simple (fa_cons (fe_var 0) (fa_cons (fe_var 1) fa_nil))) (fe_const T.c_PERFECT))))
theorem fn_is_perfect {P : Program} {w : World} {K : PySem.W.Frag} {mg : Str → Option Value} {base : Heap} {cl : Nat → Addr} {TB : List (Addr × Str)} {a : Addr} {fd : FuncData} (T : TX K mg cl) (d_simple : FnD P w K mg base cl TB 2 "simple" F_simple)  (Fn : FunQ K "is_perfect" "is_perfect" s_is_perfect a fd .none "") (hm : mg "is_perfect" = some (.ref a)) (hb : Binds K fd ["low", "high"] []) : FnD P w K mg base cl TB 3 "is_perfect" F_is_perfect :=
  fnD Fn sc_is_perfect hm hb (by decide) (fs_is_perfect T d_simple)
theorem sc_mirrored : FnScope ["tune", "about", "note"] ["tune", "about"] (defScope s_mirrored) := ⟨rfl, rfl, rfl, by decide +kernel, rfl, by decide +kernel, by decide +kernel⟩
def b_mirrored : Fo := (thenS (callB tupleD (consM (lcMX [2] (bName 2) (pureM true) (callM F_turned (consM (varM 2) (consM (varM 1) (pureM [])))) (seqM (varM 0))) (pureM []))) fun d _ => some (.rt d))
def F_mirrored : DF := defF ["tune", "about", "note"] 2 b_mirrored
theorem fs_mirrored {P : Program} {w : World} {K : PySem.W.Frag} {mg : Str → Option Value} {base : Heap} {cl : Nat → Addr} {TB : List (Addr × Str)} (T : TX K mg cl) (d_turned : FnD P w K mg base cl TB 2 "turned" F_turned)  (E : XK) : FS ⟨P, w, K, mg, base, ["tune", "about", "note"], defScope s_mirrored, 2, cl, E, fun _ => true, (TB, false), .none, ""⟩ (defBody s_mirrored) b_mirrored :=
  (fs_one (fs_ret (fe_tuple T.b_tuple (fa_cons (fe_lcx [("note", 2)] sc_mirrored.nd (fi_seq (fe_var 0)) (by kernel_rfl) (fg_name 2 sc_mirrored.nd) fts_nil (fe_call d_turned (fa_cons (fe_var 2) (fa_cons (fe_var 1) fa_nil))) (by decide)) fa_nil))))
theorem fn_mirrored {P : Program} {w : World} {K : PySem.W.Frag} {mg : Str → Option Value} {base : Heap} {cl : Nat → Addr} {TB : List (Addr × Str)} {a : Addr} {fd : FuncData} (T : TX K mg cl) (d_turned : FnD P w K mg base cl TB 2 "turned" F_turned)  (Fn : FunQ K "mirrored" "mirrored" s_mirrored a fd .none "") (hm : mg "mirrored" = some (.ref a)) (hb : Binds K fd ["tune", "about"] []) : FnD P w K mg base cl TB 3 "mirrored" F_mirrored :=
  fnD Fn sc_mirrored hm hb (by decide) (fs_mirrored T d_turned)
theorem sc_tune_cost : FnScope ["tune", "one", "other"] ["tune"] (defScope s_tune_cost) := ⟨rfl, rfl, rfl, by decide +kernel, rfl, by decide +kernel, by decide +kernel⟩
def b_tune_cost : Fo := (thenS (callB sumD (consM (lcM [1, 2] (bTup (bCons (bName 1) (bCons (bName 2) (bNil)))) (pureM true) (callM F_move_cost (consM (varM 1) (consM (varM 2) (pureM [])))) (itM zipD (consM (varM 0) (consM (bindM (varM 0) fun d => bindM (intM (pureM (.int 1))) fun l => bindM (pureM none) fun h => liftO (slD d l h)) (pureM []))))) (pureM []))) fun d _ => some (.rt d))
def F_tune_cost : DF := defF ["tune", "one", "other"] 1 b_tune_cost
theorem fs_tune_cost {P : Program} {w : World} {K : PySem.W.Frag} {mg : Str → Option Value} {base : Heap} {cl : Nat → Addr} {TB : List (Addr × Str)} (T : TX K mg cl) (d_move_cost : FnD P w K mg base cl TB 2 "move_cost" F_move_cost)  (E : XK) : FS ⟨P, w, K, mg, base, ["tune", "one", "other"], defScope s_tune_cost, 2, cl, E, fun _ => true, (TB, false), .none, ""⟩ (defBody s_tune_cost) b_tune_cost :=
  (fs_one (fs_ret (fe_sum T.b_sum (fa_cons (fe_lc [("one", 1), ("other", 2)] sc_tune_cost.nd (fi_zip T.b_zip (fa_cons (fe_var 0) (fa_cons (fe_slice (fe_var 0) (fo_some fe_int) fo_none) fa_nil))) (by kernel_rfl) (fg_tup (fgs_cons (fg_name 1 sc_tune_cost.nd) (fgs_cons (fg_name 2 sc_tune_cost.nd) fgs_nil))) fts_nil (fe_call d_move_cost (fa_cons (fe_var 1) (fa_cons (fe_var 2) fa_nil))) (by decide)) fa_nil))))
theorem fn_tune_cost {P : Program} {w : World} {K : PySem.W.Frag} {mg : Str → Option Value} {base : Heap} {cl : Nat → Addr} {TB : List (Addr × Str)} {a : Addr} {fd : FuncData} (T : TX K mg cl) (d_move_cost : FnD P w K mg base cl TB 2 "move_cost" F_move_cost)  (Fn : FunQ K "tune_cost" "tune_cost" s_tune_cost a fd .none "") (hm : mg "tune_cost" = some (.ref a)) (hb : Binds K fd ["tune"] []) : FnD P w K mg base cl TB 3 "tune_cost" F_tune_cost :=
  fnD Fn sc_tune_cost hm hb (by decide) (fs_tune_cost T d_move_cost)
theorem sc_runs_alike : FnScope ["low", "low_next", "high", "high_next"] ["low", "low_next", "high", "high_next"] (defScope s_runs_alike) := ⟨rfl, rfl, rfl, by decide +kernel, rfl, by decide +kernel, by decide +kernel⟩
def b_runs_alike : Fo := (seqS (thenS (orT (tst (bin2 eqD (varM 0) (varM 1))) (tst (bin2 eqD (varM 2) (varM 3)))) fun k => if k then (thenS (pureM (.bl false)) fun d _ => some (.rt d)) else nxS) (thenS (andM (callM F_is_perfect (consM (varM 0) (consM (varM 2) (pureM [])))) (bin2 eqD (callM F_simple (consM (varM 0) (consM (varM 2) (pureM [])))) (callM F_simple (consM (varM 1) (consM (varM 3) (pureM [])))))) fun d _ => some (.rt d)))
def F_runs_alike : DF := defF ["low", "low_next", "high", "high_next"] 4 b_runs_alike
theorem fs_runs_alike {P : Program} {w : World} {K : PySem.W.Frag} {mg : Str → Option Value} {base : Heap} {cl : Nat → Addr} {TB : List (Addr × Str)} (T : TX K mg cl) (d_is_perfect : FnD P w K mg base cl TB 3 "is_perfect" F_is_perfect) (d_simple : FnD P w K mg base cl TB 2 "simple" F_simple)  (E : XK) : FS ⟨P, w, K, mg, base, ["low", "low_next", "high", "high_next"], defScope s_runs_alike, 3, cl, E, fun _ => true, (TB, false), .none, ""⟩ (defBody s_runs_alike) b_runs_alike :=
  (fs_cons (fs_if (ft_w (fw_or (ft_eq (fe_var 0) (fe_var 1)) (fw_or1 (ft_eq (fe_var 2) (fe_var 3))))) (fs_one (fs_ret fe_bl)) fs_nil) (fs_one (fs_ret (fe_and (fe_call d_is_perfect (fa_cons (fe_var 0) (fa_cons (fe_var 2) fa_nil))) (fe_one (fe_eq (fe_call d_simple (fa_cons (fe_var 0) (fa_cons (fe_var 2) fa_nil))) (fe_call d_simple (fa_cons (fe_var 1) (fa_cons (fe_var 3) fa_nil)))))))))
theorem fn_runs_alike {P : Program} {w : World} {K : PySem.W.Frag} {mg : Str → Option Value} {base : Heap} {cl : Nat → Addr} {TB : List (Addr × Str)} {a : Addr} {fd : FuncData} (T : TX K mg cl) (d_is_perfect : FnD P w K mg base cl TB 3 "is_perfect" F_is_perfect) (d_simple : FnD P w K mg base cl TB 2 "simple" F_simple)  (Fn : FunQ K "runs_alike" "runs_alike" s_runs_alike a fd .none "") (hm : mg "runs_alike" = some (.ref a)) (hb : Binds K fd ["low", "low_next", "high", "high_next"] []) : FnD P w K mg base cl TB 4 "runs_alike" F_runs_alike :=
  fnD Fn sc_runs_alike hm hb (by decide) (fs_runs_alike T d_is_perfect d_simple)
theorem sc_may_sound : FnScope ["pairs", "note", "later", "here", "there"] ["pairs"] (defScope s_may_sound) := ⟨rfl, rfl, rfl, by decide +kernel, rfl, by decide +kernel, by decide +kernel⟩
def b_may_sound : Fo := (seqS (thenS (tst (anyM true [1, 2] (bTup (bCons (bName 1) (bCons (bName 2) (bNil)))) (pureM true) (notM (callM F_goes_together (consM (varM 1) (consM (varM 2) (pureM []))))) (seqM (varM 0)))) fun k => if k then (thenS (pureM (.bl false)) fun d _ => some (.rt d)) else nxS) (thenS (notM (anyM true [3, 4] (bTup (bCons (bName 3) (bCons (bName 4) (bNil)))) (pureM true) (callM F_runs_alike (consM (bin2 ixD (varM 3) (pureM (.int 0))) (consM (bin2 ixD (varM 4) (pureM (.int 0))) (consM (bin2 ixD (varM 3) (pureM (.int 1))) (consM (bin2 ixD (varM 4) (pureM (.int 1))) (pureM [])))))) (itM zipD (consM (varM 0) (consM (bindM (varM 0) fun d => bindM (intM (pureM (.int 1))) fun l => bindM (pureM none) fun h => liftO (slD d l h)) (pureM [])))))) fun d _ => some (.rt d)))
def F_may_sound : DF := defF ["pairs", "note", "later", "here", "there"] 1 b_may_sound
theorem fs_may_sound {P : Program} {w : World} {K : PySem.W.Frag} {mg : Str → Option Value} {base : Heap} {cl : Nat → Addr} {TB : List (Addr × Str)} (T : TX K mg cl) (d_goes_together : FnD P w K mg base cl TB 3 "goes_together" F_goes_together) (d_runs_alike : FnD P w K mg base cl TB 4 "runs_alike" F_runs_alike) {C Pt : Addr} (gt : (Pt, (("may_sound" : Str) ++ (".<locals>." : Str)) ++ "<genexpr>") ∈ TB) (go : oneB TB Pt ((("may_sound" : Str) ++ (".<locals>." : Str)) ++ "<genexpr>") = true) (gb : LamX.TabB base mg C Pt) (E : XK) : FS ⟨P, w, K, mg, base, ["pairs", "note", "later", "here", "there"], defScope s_may_sound, 5, cl, E, fun _ => true, (TB, false), .ref C, ("may_sound" : Str) ++ (".<locals>." : Str)⟩ (defBody s_may_sound) b_may_sound :=
  have GD : GenD ⟨P, w, K, mg, base, ["pairs", "note", "later", "here", "there"], defScope s_may_sound, 5, cl, E, fun _ => true, (TB, false), .ref C, ("may_sound" : Str) ++ (".<locals>." : Str)⟩ C Pt := ⟨rfl, gt, one_by go, gb⟩
  (fs_cons (fs_if (ft_val (fe_any 4 [("note", 1), ("later", 2)] ⟨GD.code, GD.T, GD.one, GD.tb⟩ sc_may_sound.nd T.b_any (fi_seq (fe_var 0)) (by kernel_rfl) (fg_tup (fgs_cons (fg_name 1 sc_may_sound.nd) (fgs_cons (fg_name 2 sc_may_sound.nd) fgs_nil))) fts_nil (fe_not (fe_call d_goes_together (fa_cons (fe_var 1) (fa_cons (fe_var 2) fa_nil)))) (by decide))) (fs_one (fs_ret fe_bl)) fs_nil) (fs_one (fs_ret (fe_not (fe_any 4 [("here", 3), ("there", 4)] ⟨GD.code, GD.T, GD.one, GD.tb⟩ sc_may_sound.nd T.b_any (fi_zip T.b_zip (fa_cons (fe_var 0) (fa_cons (fe_slice (fe_var 0) (fo_some fe_int) fo_none) fa_nil))) (by kernel_rfl) (fg_tup (fgs_cons (fg_name 3 sc_may_sound.nd) (fgs_cons (fg_name 4 sc_may_sound.nd) fgs_nil))) fts_nil (fe_call d_runs_alike (fa_cons (fe_ix (fe_var 3) fe_int) (fa_cons (fe_ix (fe_var 4) fe_int) (fa_cons (fe_ix (fe_var 3) fe_int) (fa_cons (fe_ix (fe_var 4) fe_int) fa_nil))))) (by decide))))))
theorem fn_may_sound {P : Program} {w : World} {K : PySem.W.Frag} {mg : Str → Option Value} {base : Heap} {cl : Nat → Addr} {TB : List (Addr × Str)} {a : Addr} {fd : FuncData} (T : TX K mg cl) (d_goes_together : FnD P w K mg base cl TB 3 "goes_together" F_goes_together) (d_runs_alike : FnD P w K mg base cl TB 4 "runs_alike" F_runs_alike) {C Pt : Addr} (gt : (Pt, (("may_sound" : Str) ++ (".<locals>." : Str)) ++ "<genexpr>") ∈ TB) (go : oneB TB Pt ((("may_sound" : Str) ++ (".<locals>." : Str)) ++ "<genexpr>") = true) (gb : LamX.TabB base mg C Pt) (Fn : FunQ K "may_sound" "may_sound" s_may_sound a fd (.ref C) (("may_sound" : Str) ++ (".<locals>." : Str))) (hm : mg "may_sound" = some (.ref a)) (hb : Binds K fd ["pairs"] []) : FnD P w K mg base cl TB 6 "may_sound" F_may_sound :=
  fnD Fn sc_may_sound hm hb (by decide) (fs_may_sound T d_goes_together d_runs_alike gt go gb)
theorem sc_follows_at : FnScope ["tune", "delay", "shift", "note"] ["tune", "delay", "shift"] (defScope s_follows_at) := ⟨rfl, rfl, rfl, by decide +kernel, rfl, by decide +kernel, by decide +kernel⟩
def b_follows_at : Fo := (thenS (callM F_may_sound (consM (callM F_overlap (consM (varM 0) (consM (lcM [3] (bName 3) (pureM true) (bin2 addD (varM 3) (varM 2)) (seqM (varM 0))) (consM (varM 1) (pureM []))))) (pureM []))) fun d _ => some (.rt d))
def F_follows_at : DF := defF ["tune", "delay", "shift", "note"] 3 b_follows_at
theorem fs_follows_at {P : Program} {w : World} {K : PySem.W.Frag} {mg : Str → Option Value} {base : Heap} {cl : Nat → Addr} {TB : List (Addr × Str)} (T : TX K mg cl) (d_may_sound : FnD P w K mg base cl TB 6 "may_sound" F_may_sound) (d_overlap : FnD P w K mg base cl TB 1 "overlap" F_overlap)  (E : XK) : FS ⟨P, w, K, mg, base, ["tune", "delay", "shift", "note"], defScope s_follows_at, 6, cl, E, fun _ => true, (TB, false), .none, ""⟩ (defBody s_follows_at) b_follows_at :=
  (fs_one (fs_ret (fe_call d_may_sound (fa_cons (fe_call d_overlap (fa_cons (fe_var 0) (fa_cons (fe_lc [("note", 3)] sc_follows_at.nd (fi_seq (fe_var 0)) (by kernel_rfl) (fg_name 3 sc_follows_at.nd) fts_nil (fe_add (fe_var 3) (fe_var 2)) (by decide)) (fa_cons (fe_var 1) fa_nil)))) fa_nil))))
theorem fn_follows_at {P : Program} {w : World} {K : PySem.W.Frag} {mg : Str → Option Value} {base : Heap} {cl : Nat → Addr} {TB : List (Addr × Str)} {a : Addr} {fd : FuncData} (T : TX K mg cl) (d_may_sound : FnD P w K mg base cl TB 6 "may_sound" F_may_sound) (d_overlap : FnD P w K mg base cl TB 1 "overlap" F_overlap)  (Fn : FunQ K "follows_at" "follows_at" s_follows_at a fd .none "") (hm : mg "follows_at" = some (.ref a)) (hb : Binds K fd ["tune", "delay", "shift"] []) : FnD P w K mg base cl TB 7 "follows_at" F_follows_at :=
  fnD Fn sc_follows_at hm hb (by decide) (fs_follows_at T d_may_sound d_overlap)
theorem sc_mirror_follows : FnScope ["tune", "delay", "about", "note"] ["tune", "delay", "about"] (defScope s_mirror_follows) := ⟨rfl, rfl, rfl, by decide +kernel, rfl, by decide +kernel, by decide +kernel⟩
def b_mirror_follows : Fo := (thenS (callM F_may_sound (consM (callM F_overlap (consM (varM 0) (consM (lcM [3] (bName 3) (pureM true) (bin2 subD (varM 2) (varM 3)) (seqM (varM 0))) (consM (varM 1) (pureM []))))) (pureM []))) fun d _ => some (.rt d))
def F_mirror_follows : DF := defF ["tune", "delay", "about", "note"] 3 b_mirror_follows
theorem fs_mirror_follows {P : Program} {w : World} {K : PySem.W.Frag} {mg : Str → Option Value} {base : Heap} {cl : Nat → Addr} {TB : List (Addr × Str)} (T : TX K mg cl) (d_may_sound : FnD P w K mg base cl TB 6 "may_sound" F_may_sound) (d_overlap : FnD P w K mg base cl TB 1 "overlap" F_overlap)  (E : XK) : FS ⟨P, w, K, mg, base, ["tune", "delay", "about", "note"], defScope s_mirror_follows, 6, cl, E, fun _ => true, (TB, false), .none, ""⟩ (defBody s_mirror_follows) b_mirror_follows :=
  (fs_one (fs_ret (fe_call d_may_sound (fa_cons (fe_call d_overlap (fa_cons (fe_var 0) (fa_cons (fe_lc [("note", 3)] sc_mirror_follows.nd (fi_seq (fe_var 0)) (by kernel_rfl) (fg_name 3 sc_mirror_follows.nd) fts_nil (fe_sub (fe_var 2) (fe_var 3)) (by decide)) (fa_cons (fe_var 1) fa_nil)))) fa_nil))))
theorem fn_mirror_follows {P : Program} {w : World} {K : PySem.W.Frag} {mg : Str → Option Value} {base : Heap} {cl : Nat → Addr} {TB : List (Addr × Str)} {a : Addr} {fd : FuncData} (T : TX K mg cl) (d_may_sound : FnD P w K mg base cl TB 6 "may_sound" F_may_sound) (d_overlap : FnD P w K mg base cl TB 1 "overlap" F_overlap)  (Fn : FunQ K "mirror_follows" "mirror_follows" s_mirror_follows a fd .none "") (hm : mg "mirror_follows" = some (.ref a)) (hb : Binds K fd ["tune", "delay", "about"] []) : FnD P w K mg base cl TB 7 "mirror_follows" F_mirror_follows :=
  fnD Fn sc_mirror_follows hm hb (by decide) (fs_mirror_follows T d_may_sound d_overlap)
theorem sc_crab : FnScope ["tune"] ["tune"] (defScope s_crab) := ⟨rfl, rfl, rfl, by decide +kernel, rfl, by decide +kernel, by decide +kernel⟩
def b_crab : Fo := (thenS (callM F_may_sound (consM (callM F_overlap (consM (varM 0) (consM (callM F_backwards (consM (varM 0) (pureM []))) (consM (pureM (.int 0)) (pureM []))))) (pureM []))) fun d _ => some (.rt d))
def F_crab : DF := defF ["tune"] 1 b_crab
theorem fs_crab {P : Program} {w : World} {K : PySem.W.Frag} {mg : Str → Option Value} {base : Heap} {cl : Nat → Addr} {TB : List (Addr × Str)} (T : TX K mg cl) (d_backwards : FnD P w K mg base cl TB 1 "backwards" F_backwards) (d_may_sound : FnD P w K mg base cl TB 6 "may_sound" F_may_sound) (d_overlap : FnD P w K mg base cl TB 1 "overlap" F_overlap)  (E : XK) : FS ⟨P, w, K, mg, base, ["tune"], defScope s_crab, 6, cl, E, fun _ => true, (TB, false), .none, ""⟩ (defBody s_crab) b_crab :=
  (fs_one (fs_ret (fe_call d_may_sound (fa_cons (fe_call d_overlap (fa_cons (fe_var 0) (fa_cons (fe_call d_backwards (fa_cons (fe_var 0) fa_nil)) (fa_cons fe_int fa_nil)))) fa_nil))))
theorem fn_crab {P : Program} {w : World} {K : PySem.W.Frag} {mg : Str → Option Value} {base : Heap} {cl : Nat → Addr} {TB : List (Addr × Str)} {a : Addr} {fd : FuncData} (T : TX K mg cl) (d_backwards : FnD P w K mg base cl TB 1 "backwards" F_backwards) (d_may_sound : FnD P w K mg base cl TB 6 "may_sound" F_may_sound) (d_overlap : FnD P w K mg base cl TB 1 "overlap" F_overlap)  (Fn : FunQ K "crab" "crab" s_crab a fd .none "") (hm : mg "crab" = some (.ref a)) (hb : Binds K fd ["tune"] []) : FnD P w K mg base cl TB 7 "crab" F_crab :=
  fnD Fn sc_crab hm hb (by decide) (fs_crab T d_backwards d_may_sound d_overlap)
theorem sc_round_may : FnScope ["tune", "delay", "places", "place"] ["tune", "delay"] (defScope s_round_may) := ⟨rfl, rfl, rfl, by decide +kernel, rfl, by decide +kernel, by decide +kernel⟩
def b_round_may : Fo := (seqS (thenS (bindM (tst (chainM ltD ltD (pureM (.int 0)) (varM 1) (callB lenD (consM (varM 0) (pureM []))))) fun k => pureM (!k)) fun k => if k then (fun _ => some (.ex 6)) else nxS) (seqS (thenS (bin2 addD (lrg1 (callB lenD (consM (varM 0) (pureM [])))) (lstM (consM (pureM (.int 0)) (pureM [])))) fun d δ => some (.nx (δ.set 2 (.val d)))) (thenS (callM F_may_sound (consM (lcM [3] (bName 3) (pureM true) (tupM (consM (bin2 ixD (varM 0) (varM 3)) (consM (bin2 ixD (varM 0) (bin2 subD (varM 3) (varM 1))) (pureM [])))) (seqM (varM 2))) (pureM []))) fun d _ => some (.rt d))))
def F_round_may : DF := defF ["tune", "delay", "places", "place"] 2 b_round_may
theorem fs_round_may {P : Program} {w : World} {K : PySem.W.Frag} {mg : Str → Option Value} {base : Heap} {cl : Nat → Addr} {TB : List (Addr × Str)} (T : TX K mg cl) (d_may_sound : FnD P w K mg base cl TB 6 "may_sound" F_may_sound)  (E : XK) : FS ⟨P, w, K, mg, base, ["tune", "delay", "places", "place"], defScope s_round_may, 6, cl, E, fun _ => true, (TB, false), .none, ""⟩ (defBody s_round_may) b_round_may :=
  (fs_cons (fs_if (ft_not (ft_ltlt fe_int (fe_var 1) (fe_len T.b_len (fa_cons (fe_var 0) fa_nil)))) (fs_one (fs_raise 6 T.x_BadSize)) fs_nil) (fs_cons (fs_set 2 sc_round_may.nd (fe_add (fe_listRg1 T.b_list T.b_range (fe_len T.b_len (fa_cons (fe_var 0) fa_nil))) (fe_lst (fa_cons fe_int fa_nil)))) (fs_one (fs_ret (fe_call d_may_sound (fa_cons (fe_lc [("place", 3)] sc_round_may.nd (fi_seq (fe_var 2)) (by kernel_rfl) (fg_name 3 sc_round_may.nd) fts_nil (fe_tup (fa_cons (fe_ix (fe_var 0) (fe_var 3)) (fa_cons (fe_ix (fe_var 0) (fe_sub (fe_var 3) (fe_var 1))) fa_nil))) (by decide)) fa_nil))))))
theorem fn_round_may {P : Program} {w : World} {K : PySem.W.Frag} {mg : Str → Option Value} {base : Heap} {cl : Nat → Addr} {TB : List (Addr × Str)} {a : Addr} {fd : FuncData} (T : TX K mg cl) (d_may_sound : FnD P w K mg base cl TB 6 "may_sound" F_may_sound)  (Fn : FunQ K "round_may" "round_may" s_round_may a fd .none "") (hm : mg "round_may" = some (.ref a)) (hb : Binds K fd ["tune", "delay"] []) : FnD P w K mg base cl TB 7 "round_may" F_round_may :=
  fnD Fn sc_round_may hm hb (by decide) (fs_round_may T d_may_sound)
theorem sc_all_canons : FnScope ["tune", "delays", "shifts", "delay", "shift"] ["tune", "delays", "shifts"] (defScope s_all_canons) := ⟨rfl, rfl, rfl, by decide +kernel, rfl, by decide +kernel, by decide +kernel⟩
def b_all_canons : Fo := (thenS (callB tupleD (consM (lcM2 [3, 4] (bName 3) (pureM true) (seqM (varM 2)) [4] (bName 4) (tst (callM F_follows_at (consM (varM 0) (consM (varM 3) (consM (varM 4) (pureM [])))))) (tupM (consM (varM 3) (consM (varM 4) (pureM [])))) (seqM (varM 1))) (pureM []))) fun d _ => some (.rt d))
def F_all_canons : DF := defF ["tune", "delays", "shifts", "delay", "shift"] 3 b_all_canons
theorem fs_all_canons {P : Program} {w : World} {K : PySem.W.Frag} {mg : Str → Option Value} {base : Heap} {cl : Nat → Addr} {TB : List (Addr × Str)} (T : TX K mg cl) (d_follows_at : FnD P w K mg base cl TB 7 "follows_at" F_follows_at)  (E : XK) : FS ⟨P, w, K, mg, base, ["tune", "delays", "shifts", "delay", "shift"], defScope s_all_canons, 7, cl, E, fun _ => true, (TB, false), .none, ""⟩ (defBody s_all_canons) b_all_canons :=
  (fs_one (fs_ret (fe_tuple T.b_tuple (fa_cons (fe_lc2 [("delay", 3), ("shift", 4)] [4] sc_all_canons.nd (fi_seq (fe_var 1)) (by kernel_rfl) (fg_name 3 sc_all_canons.nd) fts_nil (fi_seq (fe_var 2)) (fg_name 4 sc_all_canons.nd) (fts_one (ft_val (fe_call d_follows_at (fa_cons (fe_var 0) (fa_cons (fe_var 3) (fa_cons (fe_var 4) fa_nil)))))) (fe_tup (fa_cons (fe_var 3) (fa_cons (fe_var 4) fa_nil))) (by decide) (by decide) (by decide)) fa_nil))))
theorem fn_all_canons {P : Program} {w : World} {K : PySem.W.Frag} {mg : Str → Option Value} {base : Heap} {cl : Nat → Addr} {TB : List (Addr × Str)} {a : Addr} {fd : FuncData} (T : TX K mg cl) (d_follows_at : FnD P w K mg base cl TB 7 "follows_at" F_follows_at)  (Fn : FunQ K "all_canons" "all_canons" s_all_canons a fd .none "") (hm : mg "all_canons" = some (.ref a)) (hb : Binds K fd ["tune", "delays", "shifts"] []) : FnD P w K mg base cl TB 8 "all_canons" F_all_canons :=
  fnD Fn sc_all_canons hm hb (by decide) (fs_all_canons T d_follows_at)
theorem sc_all_mirrors : FnScope ["tune", "delays", "abouts", "delay", "about"] ["tune", "delays", "abouts"] (defScope s_all_mirrors) := ⟨rfl, rfl, rfl, by decide +kernel, rfl, by decide +kernel, by decide +kernel⟩
def b_all_mirrors : Fo := (thenS (callB tupleD (consM (lcM2 [3, 4] (bName 3) (pureM true) (seqM (varM 2)) [4] (bName 4) (tst (callM F_mirror_follows (consM (varM 0) (consM (varM 3) (consM (varM 4) (pureM [])))))) (tupM (consM (varM 3) (consM (varM 4) (pureM [])))) (seqM (varM 1))) (pureM []))) fun d _ => some (.rt d))
def F_all_mirrors : DF := defF ["tune", "delays", "abouts", "delay", "about"] 3 b_all_mirrors
theorem fs_all_mirrors {P : Program} {w : World} {K : PySem.W.Frag} {mg : Str → Option Value} {base : Heap} {cl : Nat → Addr} {TB : List (Addr × Str)} (T : TX K mg cl) (d_mirror_follows : FnD P w K mg base cl TB 7 "mirror_follows" F_mirror_follows)  (E : XK) : FS ⟨P, w, K, mg, base, ["tune", "delays", "abouts", "delay", "about"], defScope s_all_mirrors, 7, cl, E, fun _ => true, (TB, false), .none, ""⟩ (defBody s_all_mirrors) b_all_mirrors :=
  (fs_one (fs_ret (fe_tuple T.b_tuple (fa_cons (fe_lc2 [("delay", 3), ("about", 4)] [4] sc_all_mirrors.nd (fi_seq (fe_var 1)) (by kernel_rfl) (fg_name 3 sc_all_mirrors.nd) fts_nil (fi_seq (fe_var 2)) (fg_name 4 sc_all_mirrors.nd) (fts_one (ft_val (fe_call d_mirror_follows (fa_cons (fe_var 0) (fa_cons (fe_var 3) (fa_cons (fe_var 4) fa_nil)))))) (fe_tup (fa_cons (fe_var 3) (fa_cons (fe_var 4) fa_nil))) (by decide) (by decide) (by decide)) fa_nil))))
theorem fn_all_mirrors {P : Program} {w : World} {K : PySem.W.Frag} {mg : Str → Option Value} {base : Heap} {cl : Nat → Addr} {TB : List (Addr × Str)} {a : Addr} {fd : FuncData} (T : TX K mg cl) (d_mirror_follows : FnD P w K mg base cl TB 7 "mirror_follows" F_mirror_follows)  (Fn : FunQ K "all_mirrors" "all_mirrors" s_all_mirrors a fd .none "") (hm : mg "all_mirrors" = some (.ref a)) (hb : Binds K fd ["tune", "delays", "abouts"] []) : FnD P w K mg base cl TB 8 "all_mirrors" F_all_mirrors :=
  fnD Fn sc_all_mirrors hm hb (by decide) (fs_all_mirrors T d_mirror_follows)
theorem sc__law_roll : FnScope ["dice", "many", "found"] ["dice", "many"] (defScope s__law_roll) := ⟨rfl, rfl, rfl, by decide +kernel, rfl, by decide +kernel, by decide +kernel⟩
theorem at3 (a b d : V) (k : Nat) (v : V) (h : [a, b, d][k]? = some v) : atI [a, b, d] (k : Int) = some v := atI_nat h
theorem ok_roll {P : Program} {w : World} {K : PySem.W.Frag} {mg : Str → Option Value} {base : Heap} {a : Addr} {fd : FuncData} (F : Fun K "_law_roll" "_law_roll" s__law_roll a fd) (hi : mg "int" = none) : FnOk P w K mg base (L2.CX P w) 1 a fd ["dice", "many"] spRoll := by
  refine F.okX sc__law_roll (fun vs H Q E h => ?_) (fun cdv A outer s H vs Q E hr h => ?_)
  · obtain ⟨p, x, y, z, m, rfl, _⟩ := h
    rfl
  · refine ⟨_, pss_cons (ps_if (PW.pt (pw_or (pt_cmpR op_eq (pe_ix ix_list (pv 0) pe_int (fun _ _ => rfl)) pe_int (nomark _)) (pw_or1 (PW.pt (pw_and (pt_cmpR op_eq (pe_ix ix_list (pv 0) pe_int (fun _ _ => rfl)) pe_int (nomark _)) (pw_and1 (pt_cmpR op_gt (pe_ix ix_list (pv 0) pe_int (fun _ _ => rfl)) pe_int (nomark _))))))))
        (pss_cons (ps_set (i := 2) sc__law_roll.nd rfl (Or.inl rfl) (pe_op op_mod (pe_callTy call_int1 (by rfl) hi PyProof.Rows.boot_int (pa_cons (pe_ix ix_list (pv 0) pe_int (fun _ _ => rfl)) pa_nil)) (pv 1)))
        (pss_cons (ps_asg (pe_op op_fdiv (pe_ix ix_list (pv 0) pe_int (fun _ _ => rfl)) (pv 1)) (pg_sub (pv 0) pe_int set_list))
        (pss_one (ps_ret (pv 2))))) pss_nil)
      (pss_cons (ps_asg pe_int (pg_sub (pv 0) pe_int set_list))
      (pss_cons (ps_asg (pe_op op_mod (pe_callTy call_int1 (by rfl) hi PyProof.Rows.boot_int (pa_cons (pe_op op_add (pe_op op_add (pe_op op_mul (pe_ix ix_list (pv 0) pe_int (fun _ _ => rfl)) pe_int) (pe_op op_mul (pe_ix ix_list (pv 0) pe_int (fun _ _ => rfl)) pe_int)) pe_int) pa_nil)) pe_int) (pg_sub (pv 0) pe_int set_list))
      (pss_cons (ps_asg (pe_op op_add (pe_ix ix_list (pv 0) pe_int (fun _ _ => rfl)) pe_int) (pg_sub (pv 0) pe_int set_list))
      (pss_one (ps_ret (pe_op op_mod (pe_callTy call_int1 (by rfl) hi PyProof.Rows.boot_int (pa_cons (pe_op op_add (pe_op op_fdiv (pe_ix ix_list (pv 0) pe_int (fun _ _ => rfl)) pe_int) (pe_ix ix_list (pv 0) pe_int (fun _ _ => rfl))) pa_nil)) (pv 1))))))), ?_⟩
    obtain ⟨p, x, y, z, m, rfl, hp, m0, m1, q⟩ := h
    have sq : ∀ {H' : Hp} {a b d : Int}, H' p = some (ints3 a b d) → SqL K H' p [.int a, .int b, .int d] := fun h => .inl (.inl h)
    refine ⟨_, rfl, p, _, _, _, rfl, rfl, sq hp, atI_nat (j := 2) rfl, rfl, _, rfl, ?_⟩
    refine ite2 (fun e => ?_) (fun e => ?_)
    · have hz2 : z = 2 := V.int.inj (of_decide_eq_true e)
      have hc : z = 2 ∨ (z = 1 ∧ 0 < x) := .inl hz2
      refine iteT ?_
      refine ⟨_, rfl, p, _, _, _, rfl, rfl, sq hp, atI_nat (j := 0) rfl, .inl ⟨_, rfl, _, rfl, _, _, rfl, rfl, m0, ?_⟩⟩
      refine ⟨_, rfl, p, _, _, _, rfl, rfl, sq hp, atI_nat (j := 0) rfl, _, rfl, _, _, rfl, rfl, ⟨m0, m1⟩, _, rfl, p, _, _, 0, rfl, rfl, hp, rfl, _, rfl, ?_⟩
      simp only [rollF, if_pos hc] at q
      exact q
    · have hz2 : z ≠ 2 := fun h => e (by rw [h]; exact decide_eq_true rfl)
      refine ⟨_, rfl, p, _, _, _, rfl, rfl, sq hp, atI_nat (j := 2) rfl, rfl, _, rfl, ?_⟩
      refine ite2 (fun e1 => ?_) (fun e1 => ?_)
      · have hz1 : z = 1 := V.int.inj (of_decide_eq_true e1)
        refine ⟨_, rfl, p, _, _, _, rfl, rfl, sq hp, atI_nat (j := 0) rfl, _, _, rfl, rfl, _, rfl, ?_⟩
        by_cases hx : 0 < x
        · rw [decide_eq_true hx]
          have hc : z = 2 ∨ (z = 1 ∧ 0 < x) := .inr ⟨hz1, hx⟩
          refine iteT ?_
          refine ⟨_, rfl, p, _, _, _, rfl, rfl, sq hp, atI_nat (j := 0) rfl, .inl ⟨_, rfl, _, rfl, _, _, rfl, rfl, m0, ?_⟩⟩
          refine ⟨_, rfl, p, _, _, _, rfl, rfl, sq hp, atI_nat (j := 0) rfl, _, rfl, _, _, rfl, rfl, ⟨m0, m1⟩, _, rfl, p, _, _, 0, rfl, rfl, hp, rfl, _, rfl, ?_⟩
          simp only [rollF, if_pos hc] at q
          exact q
        · rw [decide_eq_false hx]
          have hc : ¬ (z = 2 ∨ (z = 1 ∧ 0 < x)) := by omega
          refine iteF ?_
          refine ⟨_, rfl, p, _, 2, 2, rfl, rfl, hp, rfl, ?_⟩
          have h1 : (upd H p (.lst [.int x, .int y, .int 0])) p = some (ints3 x y 0) := upd_same
          refine ⟨_, rfl, p, _, 0, _, rfl, rfl, sq h1, atI_nat (j := 0) rfl, _, _, rfl, rfl, .inr ⟨by decide, by decide⟩, _, rfl, p, _, 1, _, rfl, rfl, sq h1, atI_nat (j := 1) rfl, _, _, rfl, rfl, .inr ⟨by decide, by decide⟩, _, _, rfl, rfl, _, _, rfl, rfl, .inl ⟨_, rfl, _, _, rfl, rfl, (by show (0 : Int) < 2147483647; decide), ?_⟩⟩
          refine ⟨_, rfl, p, _, 0, 0, rfl, rfl, h1, rfl, ?_⟩
          have h2 : (upd (upd H p (.lst [.int x, .int y, .int 0])) p (.lst [.int ((x * 48271 + y * 69621 + 11) % 2147483647), .int y, .int 0])) p = some (ints3 ((x * 48271 + y * 69621 + 11) % 2147483647) y 0) := upd_same
          refine ⟨_, rfl, p, _, 1, _, rfl, rfl, sq h2, atI_nat (j := 1) rfl, _, _, rfl, rfl, _, rfl, p, _, 1, 1, rfl, rfl, h2, rfl, ?_⟩
          have h3 : (upd (upd (upd H p (.lst [.int x, .int y, .int 0])) p (.lst [.int ((x * 48271 + y * 69621 + 11) % 2147483647), .int y, .int 0])) p (.lst [.int ((x * 48271 + y * 69621 + 11) % 2147483647), .int (y + 1), .int 0])) p = some (ints3 ((x * 48271 + y * 69621 + 11) % 2147483647) (y + 1) 0) := upd_same
          refine ⟨_, rfl, p, _, 0, _, rfl, rfl, sq h3, atI_nat (j := 0) rfl, _, _, rfl, rfl, ⟨by decide, by decide⟩, _, rfl, p, _, 0, _, rfl, rfl, sq h3, atI_nat (j := 0) rfl, _, _, rfl, rfl, .inl ⟨_, rfl, _, rfl, _, _, rfl, rfl, m0, ?_⟩⟩
          simp only [rollF, if_neg hc] at q
          have e3 : upd (upd (upd H p (.lst [.int x, .int y, .int 0])) p (.lst [.int ((x * 48271 + y * 69621 + 11) % 2147483647), .int y, .int 0])) p (.lst [.int ((x * 48271 + y * 69621 + 11) % 2147483647), .int (y + 1), .int 0]) = upd H p (ints3 ((x * 48271 + y * 69621 + 11) % 2147483647) (y + 1) 0) := by rw [upd_upd, upd_upd]; rfl
          rw [← e3] at q
          exact q
      · have hz1 : z ≠ 1 := fun h => e1 (by rw [h]; exact decide_eq_true rfl)
        have hc : ¬ (z = 2 ∨ (z = 1 ∧ 0 < x)) := by omega
        refine iteF ?_
        refine ⟨_, rfl, p, _, 2, 2, rfl, rfl, hp, rfl, ?_⟩
        have h1 : (upd H p (.lst [.int x, .int y, .int 0])) p = some (ints3 x y 0) := upd_same
        refine ⟨_, rfl, p, _, 0, _, rfl, rfl, sq h1, atI_nat (j := 0) rfl, _, _, rfl, rfl, .inr ⟨by decide, by decide⟩, _, rfl, p, _, 1, _, rfl, rfl, sq h1, atI_nat (j := 1) rfl, _, _, rfl, rfl, .inr ⟨by decide, by decide⟩, _, _, rfl, rfl, _, _, rfl, rfl, .inl ⟨_, rfl, _, _, rfl, rfl, (by show (0 : Int) < 2147483647; decide), ?_⟩⟩
        refine ⟨_, rfl, p, _, 0, 0, rfl, rfl, h1, rfl, ?_⟩
        have h2 : (upd (upd H p (.lst [.int x, .int y, .int 0])) p (.lst [.int ((x * 48271 + y * 69621 + 11) % 2147483647), .int y, .int 0])) p = some (ints3 ((x * 48271 + y * 69621 + 11) % 2147483647) y 0) := upd_same
        refine ⟨_, rfl, p, _, 1, _, rfl, rfl, sq h2, atI_nat (j := 1) rfl, _, _, rfl, rfl, _, rfl, p, _, 1, 1, rfl, rfl, h2, rfl, ?_⟩
        have h3 : (upd (upd (upd H p (.lst [.int x, .int y, .int 0])) p (.lst [.int ((x * 48271 + y * 69621 + 11) % 2147483647), .int y, .int 0])) p (.lst [.int ((x * 48271 + y * 69621 + 11) % 2147483647), .int (y + 1), .int 0])) p = some (ints3 ((x * 48271 + y * 69621 + 11) % 2147483647) (y + 1) 0) := upd_same
        refine ⟨_, rfl, p, _, 0, _, rfl, rfl, sq h3, atI_nat (j := 0) rfl, _, _, rfl, rfl, ⟨by decide, by decide⟩, _, rfl, p, _, 0, _, rfl, rfl, sq h3, atI_nat (j := 0) rfl, _, _, rfl, rfl, .inl ⟨_, rfl, _, rfl, _, _, rfl, rfl, m0, ?_⟩⟩
        simp only [rollF, if_neg hc] at q
        have e3 : upd (upd (upd H p (.lst [.int x, .int y, .int 0])) p (.lst [.int ((x * 48271 + y * 69621 + 11) % 2147483647), .int y, .int 0])) p (.lst [.int ((x * 48271 + y * 69621 + 11) % 2147483647), .int (y + 1), .int 0]) = upd H p (ints3 ((x * 48271 + y * 69621 + 11) % 2147483647) (y + 1) 0) := by rw [upd_upd, upd_upd]; rfl
        rw [← e3] at q
        exact q

theorem sc__law_rounds : FnScope ["script", "most", "cells", "cell"] ["script", "most"] (defScope s__law_rounds) := ⟨rfl, rfl, rfl, by decide +kernel, rfl, by decide +kernel, by decide +kernel⟩
def b_rounds : Fo := (seqS (thenS (tst (bin2 eqD (varM 2) (lstM (pureM [])))) fun k => if k then (thenS (lstM (consM (pureM (.int 0)) (pureM []))) fun d δ => some (.nx (δ.set 2 (.val d)))) else nxS) (thenS (lcM [3] (bName 3) (pureM true) (callM F__law_dice (consM (varM 3) (pureM []))) (seqM (varM 2))) fun d _ => some (.rt d)))
theorem fs_rounds {P : Program} {w : World} {K : PySem.W.Frag} {mg : Str → Option Value} {base : Heap} {cl : Nat → Addr} {TB : List (Addr × Str)} (T : TX K mg cl) (d__law_dice : FnD P w K mg base cl TB 1 "_law_dice" F__law_dice) (E : XK) : FS ⟨P, w, K, mg, base, ["script", "most", "cells", "cell"], defScope s__law_rounds, 1, cl, E, fun _ => true, (TB, false), .none, ""⟩ (defBody s__law_rounds).tail b_rounds :=
  (fs_cons (fs_if (ft_eq (fe_var 2) (fe_lst fa_nil)) (fs_one (fs_set 2 sc__law_rounds.nd (fe_lst (fa_cons fe_int fa_nil)))) fs_nil) (fs_one (fs_ret (fe_lc [("cell", 3)] sc__law_rounds.nd (fi_seq (fe_var 2)) (by kernel_rfl) (fg_name 3 sc__law_rounds.nd) fts_nil (fe_call d__law_dice (fa_cons (fe_var 3) fa_nil)) (by decide)))))
abbrev NL : List (Nat × Str) := [(1, "note"), (2, "time"), (3, "line"), (4, "none"), (5, "paper"), (6, "size"), (7, "text"), (8, "store"), (9, "no such")]
theorem sc_law : FnScope ["script", "dice", "wrong", "tune", "delay", "delays", "shifts", "due", "turned_now", "shift", "about", "later", "pairs", "k", "row", "pair", "note"] ["script"] (defScope s_law) := ⟨rfl, rfl, rfl, by decide +kernel, rfl, by decide +kernel, by decide +kernel⟩
abbrev lam_0 : Lam := mkLam ((("law" : Str) ++ (".<locals>." : Str)) ++ "<lambda>") 0 (eltE (eltE (asgE ((defBody s_law).getD 1 (.Pass ⟨0, 0, 0, 0⟩))) 3) 0)
abbrev lam_1 : Lam := mkLam ((("law" : Str) ++ (".<locals>." : Str)) ++ "<lambda>") 1 (eltE (eltE (asgE ((defBody s_law).getD 1 (.Pass ⟨0, 0, 0, 0⟩))) 2) 0)
abbrev lam_2 : Lam := mkLam ((("law" : Str) ++ (".<locals>." : Str)) ++ "<lambda>") 2 (eltE (eltE (asgE ((defBody s_law).getD 1 (.Pass ⟨0, 0, 0, 0⟩))) 1) 0)
abbrev lam_3 : Lam := mkLam ((("law" : Str) ++ (".<locals>." : Str)) ++ "<lambda>") 3 (eltE (eltE (asgE ((defBody s_law).getD 1 (.Pass ⟨0, 0, 0, 0⟩))) 0) 0)
def LT : List (Lam × M D) := [(lam_0, callM F_mirrored (consM (lstM (consM (pureM (.int 60)) (pureM []))) (consM (pureM (.int 59)) (pureM [])))), (lam_1, callM F_round_may (consM (lstM (consM (pureM (.int 60)) (consM (pureM (.int 62)) (pureM [])))) (consM (pureM (.int 0)) (pureM [])))), (lam_2, callM F_round_may (consM (lstM (consM (pureM (.int 60)) (consM (pureM (.int 62)) (pureM [])))) (consM (pureM (.int 2)) (pureM [])))), (lam_3, callM F_overlap (consM (lstM (consM (pureM (.int 60)) (pureM []))) (consM (lstM (consM (pureM (.int 60)) (pureM []))) (consM (bin2 subD (pureM (.int 0)) (pureM (.int 1))) (pureM [])))))]
def c_1 : Fo := thenS (lcM [13] (bName 13) (pureM true) (bin2 addD (pureM (.int 48)) (rollM 1 (pureM (.int 13)))) (itM rng1 (consM (rollM 1 (pureM (.int 7))) (pureM [])))) fun d δ => some (.nx (δ.set 3 (.val d)))
def c_2 : Fo := thenS (consM (lrg1 (pureM (.int 4))) (consM (lrg2 (bin2 subD (pureM (.int 0)) (pureM (.int 12))) (pureM (.int 13))) (pureM []))) fun ds δ => match ds with | [d, e] => some (.nx ((δ.set 5 (.val d)).set 6 (.val e))) | _ => none
def c_3 : Fo := thenS (consM (lstM (pureM [])) (consM (lstM (pureM [])) (pureM []))) fun ds δ => match ds with | [d, e] => some (.nx ((δ.set 7 (.val d)).set 8 (.val e))) | _ => none
def c_4 : Fo := thenS (seqM (varM 5)) fun ds => forD (bName 4) ((seqS (thenS (seqM (varM 6)) fun ds => forD (bName 9) ((seqS (thenS (lcM [13] (bName 13) (pureM true) (tupM (consM (bin2 ixD (varM 3) (varM 13)) (consM (bin2 addD (bin2 ixD (varM 3) (bin2 subD (varM 13) (varM 4))) (varM 9)) (pureM [])))) (itM rng2 (consM (varM 4) (consM (callB lenD (consM (varM 3) (pureM []))) (pureM []))))) fun d δ => some (.nx (δ.set 12 (.val d)))) (seqS (thenS (orT (tst (bin2 neD (callM F_overlap (consM (varM 3) (consM (lcM [16] (bName 16) (pureM true) (bin2 addD (varM 16) (varM 9)) (seqM (varM 3))) (consM (varM 4) (pureM []))))) (callB tupleD (consM (varM 12) (pureM []))))) (tst (bin2 neD (callM F_may_sound (consM (varM 12) (pureM []))) (callM F__law_sounds (consM (varM 12) (pureM [])))))) fun k => if k then (thenS (pureM (.bl false)) fun d _ => some (.rt d)) else nxS) (thenS (bin2 addD (varM 7) (iteM (tst (callM F__law_sounds (consM (varM 12) (pureM [])))) (lstM (consM (tupM (consM (varM 4) (consM (varM 9) (pureM [])))) (pureM []))) (lstM (pureM [])))) fun d δ => some (.nx (δ.set 7 (.val d))))))) ds) (thenS (itM rng2 (consM (pureM (.int 96)) (consM (pureM (.int 120)) (pureM [])))) fun ds => forD (bName 10) ((seqS (thenS (lcM [13] (bName 13) (pureM true) (tupM (consM (bin2 ixD (varM 3) (varM 13)) (consM (bin2 subD (varM 10) (bin2 ixD (varM 3) (bin2 subD (varM 13) (varM 4)))) (pureM [])))) (itM rng2 (consM (varM 4) (consM (callB lenD (consM (varM 3) (pureM []))) (pureM []))))) fun d δ => some (.nx (δ.set 12 (.val d)))) (thenS (bin2 addD (varM 8) (iteM (tst (callM F__law_sounds (consM (varM 12) (pureM [])))) (lstM (consM (tupM (consM (varM 4) (consM (varM 10) (pureM [])))) (pureM []))) (lstM (pureM [])))) fun d δ => some (.nx (δ.set 8 (.val d)))))) ds))) ds
def c_5 : Fo := thenS (tst (bin2 neD (callB listD (consM (callM F_all_canons (consM (varM 3) (consM (varM 5) (consM (varM 6) (pureM []))))) (pureM []))) (varM 7))) fun k => if k then (thenS (pureM (.bl false)) fun d _ => some (.rt d)) else nxS
def c_6 : Fo := thenS (tst (bin2 neD (callB listD (consM (callM F_all_mirrors (consM (varM 3) (consM (varM 5) (consM (lrg2 (pureM (.int 96)) (pureM (.int 120))) (pureM []))))) (pureM []))) (varM 8))) fun k => if k then (thenS (pureM (.bl false)) fun d _ => some (.rt d)) else nxS
def c_7 : Fo := thenS (tupM (consM (rollM 1 (pureM (.int 4))) (consM (bin2 subD (rollM 1 (pureM (.int 25))) (pureM (.int 12))) (pureM [])))) fun d δ => (bTup (bCons (bName 4) (bCons (bName 9) (bNil))) d δ).map .nx
def c_8 : Fo := thenS (tst (bin2 neD (callM F_follows_at (consM (varM 3) (consM (varM 4) (consM (varM 9) (pureM []))))) (bin2 (inX false) (tupM (consM (varM 4) (consM (varM 9) (pureM [])))) (varM 7)))) fun k => if k then (thenS (pureM (.bl false)) fun d _ => some (.rt d)) else nxS
def c_9 : Fo := thenS (orT (tst (bin2 neD (callB listD (consM (callM F_backwards (consM (varM 3) (pureM []))) (pureM []))) (un1 revD (varM 3)))) (tst (bin2 neD (callM F_crab (consM (varM 3) (pureM []))) (callM F__law_sounds (consM (lcM [13] (bName 13) (pureM true) (tupM (consM (bin2 ixD (varM 3) (varM 13)) (consM (bin2 ixD (varM 3) (bin2 subD (bin2 subD (callB lenD (consM (varM 3) (pureM []))) (pureM (.int 1))) (varM 13))) (pureM [])))) (itM rng1 (consM (callB lenD (consM (varM 3) (pureM []))) (pureM [])))) (pureM [])))))) fun k => if k then (thenS (pureM (.bl false)) fun d _ => some (.rt d)) else nxS
def c_10 : Fo := thenS (orT (tst (bin2 neD (callB listD (consM (callM F_mirrored (consM (varM 3) (consM (pureM (.int 110)) (pureM [])))) (pureM []))) (lcM [16] (bName 16) (pureM true) (bin2 subD (pureM (.int 110)) (varM 16)) (seqM (varM 3))))) (tst (bin2 neD (callM F_mirrored (consM (callM F_mirrored (consM (varM 3) (consM (pureM (.int 110)) (pureM [])))) (consM (pureM (.int 110)) (pureM [])))) (callB tupleD (consM (varM 3) (pureM [])))))) fun k => if k then (thenS (pureM (.bl false)) fun d _ => some (.rt d)) else nxS
def c_11 : Fo := thenS (tst (bin2 neD (callM F_tune_cost (consM (varM 3) (pureM []))) (callB sumD (consM (lcM [13] (bName 13) (pureM true) (bin2 addD (callB absD (consM (bin2 subD (bin2 ixD (varM 3) (bin2 addD (varM 13) (pureM (.int 1)))) (bin2 ixD (varM 3) (varM 13))) (pureM []))) (iteM (tst (bin2 eqD (bin2 ixD (varM 3) (varM 13)) (bin2 ixD (varM 3) (bin2 addD (varM 13) (pureM (.int 1)))))) (pureM (.int 2)) (pureM (.int 0)))) (itM rng1 (consM (bin2 subD (callB lenD (consM (varM 3) (pureM []))) (pureM (.int 1))) (pureM [])))) (pureM []))))) fun k => if k then (thenS (pureM (.bl false)) fun d _ => some (.rt d)) else nxS
def c_12 : Fo := thenS (tst (bin2 gtD (callB lenD (consM (varM 3) (pureM []))) (pureM (.int 1)))) fun k => if k then (seqS (thenS (bin2 addD (pureM (.int 1)) (rollM 1 (bin2 subD (callB lenD (consM (varM 3) (pureM []))) (pureM (.int 1))))) fun d δ => some (.nx (δ.set 11 (.val d)))) (seqS (thenS (lcM [13] (bName 13) (pureM true) (tupM (consM (bin2 ixD (varM 3) (bin2 modD (varM 13) (callB lenD (consM (varM 3) (pureM []))))) (consM (bin2 ixD (varM 3) (bin2 modD (bin2 subD (varM 13) (varM 11)) (callB lenD (consM (varM 3) (pureM []))))) (pureM [])))) (itM rng1 (consM (bin2 addD (callB lenD (consM (varM 3) (pureM []))) (pureM (.int 1))) (pureM [])))) fun d δ => some (.nx (δ.set 12 (.val d)))) (thenS (tst (bin2 neD (callM F_round_may (consM (varM 3) (consM (varM 11) (pureM [])))) (callM F__law_sounds (consM (varM 12) (pureM []))))) fun k => if k then (thenS (pureM (.bl false)) fun d _ => some (.rt d)) else nxS))) else nxS
def b_body : Fo := seqS c_1 (seqS c_2 (seqS c_3 (seqS c_4 (seqS c_5 (seqS c_6 (seqS c_7 (seqS c_8 (seqS c_9 (seqS c_10 (seqS c_11 (c_12)))))))))))
theorem fs_body {P : Program} {w : World} {K : PySem.W.Frag} {mg : Str → Option Value} {base : Heap} {cl : Nat → Addr} {TB : List (Addr × Str)} {C Pt : Addr} (T : TX K mg cl) (d__law_sounds : FnD P w K mg base cl TB 1 "_law_sounds" F__law_sounds) (d_all_canons : FnD P w K mg base cl TB 8 "all_canons" F_all_canons) (d_all_mirrors : FnD P w K mg base cl TB 8 "all_mirrors" F_all_mirrors) (d_backwards : FnD P w K mg base cl TB 1 "backwards" F_backwards) (d_crab : FnD P w K mg base cl TB 7 "crab" F_crab) (d_follows_at : FnD P w K mg base cl TB 7 "follows_at" F_follows_at) (d_may_sound : FnD P w K mg base cl TB 6 "may_sound" F_may_sound) (d_mirrored : FnD P w K mg base cl TB 3 "mirrored" F_mirrored) (d_overlap : FnD P w K mg base cl TB 1 "overlap" F_overlap) (d_round_may : FnD P w K mg base cl TB 7 "round_may" F_round_may) (d_tune_cost : FnD P w K mg base cl TB 3 "tune_cost" F_tune_cost) (RD : RollD P w K mg base) (TD : ToldD P w K mg base cl NL) (lt : (Pt, (("law" : Str) ++ (".<locals>." : Str)) ++ "<lambda>") ∈ TB) (lo : oneB TB Pt ((("law" : Str) ++ (".<locals>." : Str)) ++ "<lambda>") = true) (tb : LamX.TabB base mg C Pt) (E : XK) :
  FS ⟨P, w, K, mg, base, ["script", "dice", "wrong", "tune", "delay", "delays", "shifts", "due", "turned_now", "shift", "about", "later", "pairs", "k", "row", "pair", "note"], defScope s_law, 11, cl, E, fun _ => true, (TB, true), .ref C, ("law" : Str) ++ (".<locals>." : Str)⟩ (forBody (defBody s_law)) b_body :=
  have LD : LamD ⟨P, w, K, mg, base, ["script", "dice", "wrong", "tune", "delay", "delays", "shifts", "due", "turned_now", "shift", "about", "later", "pairs", "k", "row", "pair", "note"], defScope s_law, 11, cl, E, fun _ => true, (TB, true), .ref C, ("law" : Str) ++ (".<locals>." : Str)⟩ C Pt := ⟨rfl, lt, one_by lo, rfl, tb⟩
  (fs_cons (fs_set 3 sc_law.nd (fe_lc [("k", 13)] sc_law.nd (fi_range1 T.b_range (fa_cons (fe_roll 1 RD fe_int) fa_nil)) (by kernel_rfl) (fg_name 13 sc_law.nd) fts_nil (fe_add fe_int (fe_roll 1 RD fe_int)) (by decide)) (hs := fun env h => sw_false (by rw [h]; rfl))) (fs_cons (fs_par 5 6 sc_law.nd (fa_cons (fe_listRg1 T.b_list T.b_range fe_int) (fa_cons (fe_listRg2 T.b_list T.b_range (fe_sub fe_int fe_int) fe_int) fa_nil)) (hw := fun env h => by first | rfl | (cases env; cases h; rfl))) (fs_cons (fs_par 7 8 sc_law.nd (fa_cons (fe_lst fa_nil) (fa_cons (fe_lst fa_nil) fa_nil)) (hw := fun env h => by first | rfl | (cases env; cases h; rfl))) (fs_cons (fs_for (fi_seq (fe_var 5)) (fg_name 4 sc_law.nd) (fs_cons (fs_for (fi_seq (fe_var 6)) (fg_name 9 sc_law.nd) (fs_cons (fs_setLc 12 [("k", 13)] sc_law.nd (fi_range2 T.b_range (fa_cons (fe_var 4) (fa_cons (fe_len T.b_len (fa_cons (fe_var 3) fa_nil)) fa_nil))) (by kernel_rfl) (fg_name 13 sc_law.nd) fts_nil (fe_tup (fa_cons (fe_ix (fe_var 3) (fe_var 13)) (fa_cons (fe_add (fe_ix (fe_var 3) (fe_sub (fe_var 13) (fe_var 4))) (fe_var 9)) fa_nil))) (by decide) (hsw := fun env h => sw_true (by rw [h]; rfl) (by rw [h]; rfl) rfl (by kernel_rfl))) (fs_cons (fs_if (ft_w (fw_or (ft_ne (fe_call d_overlap (fa_cons (fe_var 3) (fa_cons (fe_lc [("note", 16)] sc_law.nd (fi_seq (fe_var 3)) (by kernel_rfl) (fg_name 16 sc_law.nd) fts_nil (fe_add (fe_var 16) (fe_var 9)) (by decide)) (fa_cons (fe_var 4) fa_nil)))) (fe_tuple T.b_tuple (fa_cons (fe_var 12) fa_nil))) (fw_or1 (ft_ne (fe_call d_may_sound (fa_cons (fe_var 12) fa_nil)) (fe_call d__law_sounds (fa_cons (fe_var 12) fa_nil)))))) (fs_one (fs_ret fe_bl)) fs_nil) (fs_one (fs_set 7 sc_law.nd (fe_add (fe_var 7) (fe_ite (ft_val (fe_call d__law_sounds (fa_cons (fe_var 12) fa_nil))) (fe_lst (fa_cons (fe_tup (fa_cons (fe_var 4) (fa_cons (fe_var 9) fa_nil))) fa_nil)) (fe_lst fa_nil)))))))) (fs_one (fs_for (fi_range2 T.b_range (fa_cons fe_int (fa_cons fe_int fa_nil))) (fg_name 10 sc_law.nd) (fs_cons (fs_setLc 12 [("k", 13)] sc_law.nd (fi_range2 T.b_range (fa_cons (fe_var 4) (fa_cons (fe_len T.b_len (fa_cons (fe_var 3) fa_nil)) fa_nil))) (by kernel_rfl) (fg_name 13 sc_law.nd) fts_nil (fe_tup (fa_cons (fe_ix (fe_var 3) (fe_var 13)) (fa_cons (fe_sub (fe_var 10) (fe_ix (fe_var 3) (fe_sub (fe_var 13) (fe_var 4)))) fa_nil))) (by decide) (hsw := fun env h => sw_true (by rw [h]; rfl) (by rw [h]; rfl) rfl (by kernel_rfl))) (fs_one (fs_set 8 sc_law.nd (fe_add (fe_var 8) (fe_ite (ft_val (fe_call d__law_sounds (fa_cons (fe_var 12) fa_nil))) (fe_lst (fa_cons (fe_tup (fa_cons (fe_var 4) (fa_cons (fe_var 10) fa_nil))) fa_nil)) (fe_lst fa_nil)))))))))) (fs_cons (fs_if (ft_ne (fe_list T.b_list (fa_cons (fe_call d_all_canons (fa_cons (fe_var 3) (fa_cons (fe_var 5) (fa_cons (fe_var 6) fa_nil)))) fa_nil)) (fe_var 7)) (fs_one (fs_ret fe_bl)) fs_nil) (fs_cons (fs_if (ft_ne (fe_list T.b_list (fa_cons (fe_call d_all_mirrors (fa_cons (fe_var 3) (fa_cons (fe_var 5) (fa_cons (fe_listRg2 T.b_list T.b_range fe_int fe_int) fa_nil)))) fa_nil)) (fe_var 8)) (fs_one (fs_ret fe_bl)) fs_nil) (fs_cons (fs_asg (fe_tup (fa_cons (fe_roll 1 RD fe_int) (fa_cons (fe_sub (fe_roll 1 RD fe_int) fe_int) fa_nil))) (fg_tup (fgs_cons (fg_name 4 sc_law.nd) (fgs_cons (fg_name 9 sc_law.nd) fgs_nil))) (hw := fun env h => by first | rfl | (cases env; cases h; rfl))) (fs_cons (fs_if (ft_ne (fe_call d_follows_at (fa_cons (fe_var 3) (fa_cons (fe_var 4) (fa_cons (fe_var 9) fa_nil)))) (fe_inX (fe_tup (fa_cons (fe_var 4) (fa_cons (fe_var 9) fa_nil))) (fe_var 7))) (fs_one (fs_ret fe_bl)) fs_nil) (fs_cons (fs_if (ft_w (fw_or (ft_ne (fe_list T.b_list (fa_cons (fe_call d_backwards (fa_cons (fe_var 3) fa_nil)) fa_nil)) (fe_rev (fe_var 3))) (fw_or1 (ft_ne (fe_call d_crab (fa_cons (fe_var 3) fa_nil)) (fe_call d__law_sounds (fa_cons (fe_lc [("k", 13)] sc_law.nd (fi_range1 T.b_range (fa_cons (fe_len T.b_len (fa_cons (fe_var 3) fa_nil)) fa_nil)) (by kernel_rfl) (fg_name 13 sc_law.nd) fts_nil (fe_tup (fa_cons (fe_ix (fe_var 3) (fe_var 13)) (fa_cons (fe_ix (fe_var 3) (fe_sub (fe_sub (fe_len T.b_len (fa_cons (fe_var 3) fa_nil)) fe_int) (fe_var 13))) fa_nil))) (by decide)) fa_nil)))))) (fs_one (fs_ret fe_bl)) fs_nil) (fs_cons (fs_if (ft_w (fw_or (ft_ne (fe_list T.b_list (fa_cons (fe_call d_mirrored (fa_cons (fe_var 3) (fa_cons fe_int fa_nil))) fa_nil)) (fe_lc [("note", 16)] sc_law.nd (fi_seq (fe_var 3)) (by kernel_rfl) (fg_name 16 sc_law.nd) fts_nil (fe_sub fe_int (fe_var 16)) (by decide))) (fw_or1 (ft_ne (fe_call d_mirrored (fa_cons (fe_call d_mirrored (fa_cons (fe_var 3) (fa_cons fe_int fa_nil))) (fa_cons fe_int fa_nil))) (fe_tuple T.b_tuple (fa_cons (fe_var 3) fa_nil)))))) (fs_one (fs_ret fe_bl)) fs_nil) (fs_cons (fs_if (ft_ne (fe_call d_tune_cost (fa_cons (fe_var 3) fa_nil)) (fe_sum T.b_sum (fa_cons (fe_lc [("k", 13)] sc_law.nd (fi_range1 T.b_range (fa_cons (fe_sub (fe_len T.b_len (fa_cons (fe_var 3) fa_nil)) fe_int) fa_nil)) (by kernel_rfl) (fg_name 13 sc_law.nd) fts_nil (fe_add (fe_abs T.b_abs (fa_cons (fe_sub (fe_ix (fe_var 3) (fe_add (fe_var 13) fe_int)) (fe_ix (fe_var 3) (fe_var 13))) fa_nil)) (fe_ite (ft_eq (fe_ix (fe_var 3) (fe_var 13)) (fe_ix (fe_var 3) (fe_add (fe_var 13) fe_int))) fe_int fe_int)) (by decide)) fa_nil))) (fs_one (fs_ret fe_bl)) fs_nil) (fs_one (fs_if (ft_gt (fe_len T.b_len (fa_cons (fe_var 3) fa_nil)) fe_int) (fs_cons (fs_set 11 sc_law.nd (fe_add fe_int (fe_roll 1 RD (fe_sub (fe_len T.b_len (fa_cons (fe_var 3) fa_nil)) fe_int)))) (fs_cons (fs_setLc 12 [("k", 13)] sc_law.nd (fi_range1 T.b_range (fa_cons (fe_add (fe_len T.b_len (fa_cons (fe_var 3) fa_nil)) fe_int) fa_nil)) (by kernel_rfl) (fg_name 13 sc_law.nd) fts_nil (fe_tup (fa_cons (fe_ix (fe_var 3) (fe_mod (fe_var 13) (fe_len T.b_len (fa_cons (fe_var 3) fa_nil)))) (fa_cons (fe_ix (fe_var 3) (fe_mod (fe_sub (fe_var 13) (fe_var 11)) (fe_len T.b_len (fa_cons (fe_var 3) fa_nil)))) fa_nil))) (by decide) (hsw := fun env h => sw_true (by rw [h]; rfl) (by rw [h]; rfl) rfl (by kernel_rfl))) (fs_one (fs_if (ft_ne (fe_call d_round_may (fa_cons (fe_var 3) (fa_cons (fe_var 11) fa_nil))) (fe_call d__law_sounds (fa_cons (fe_var 12) fa_nil))) (fs_one (fs_ret fe_bl)) fs_nil)))) fs_nil)))))))))))))
noncomputable def b_rest : Fo := (seqS (thenS (lstM (consM (tupM (consM (pureM (.fn lam_3)) (consM (pureM (.str "size")) (pureM [])))) (consM (tupM (consM (pureM (.fn lam_2)) (consM (pureM (.str "size")) (pureM [])))) (consM (tupM (consM (pureM (.fn lam_1)) (consM (pureM (.str "size")) (pureM [])))) (consM (tupM (consM (pureM (.fn lam_0)) (consM (pureM (.str "note")) (pureM [])))) (pureM [])))))) fun d δ => some (.nx (δ.set 2 (.val d)))) (seqS (thenS (tst (bin2 neD (lcM [14] (bName 14) (pureM true) (callM F_round_may (consM (varM 14) (consM (pureM (.int 1)) (pureM [])))) (seqM (lstM (consM (tupM (consM (pureM (.int 60)) (consM (pureM (.int 60)) (consM (pureM (.int 67)) (pureM []))))) (consM (tupM (consM (pureM (.int 60)) (consM (pureM (.int 64)) (consM (pureM (.int 60)) (consM (pureM (.int 67)) (pureM [])))))) (consM (tupM (consM (pureM (.int 60)) (consM (pureM (.int 60)) (consM (pureM (.int 60)) (pureM []))))) (pureM []))))))) (lstM (consM (pureM (.bl false)) (consM (pureM (.bl false)) (consM (pureM (.bl true)) (pureM []))))))) fun k => if k then (thenS (pureM (.bl false)) fun d _ => some (.rt d)) else nxS) (thenS (bin2 eqD (lcM [15] (bName 15) (tst (bin2 neD (toldK NL LT (bin2 ixD (varM 15) (pureM (.int 0)))) (bin2 ixD (varM 15) (pureM (.int 1))))) (varM 15) (seqM (varM 2))) (lstM (pureM []))) fun d _ => some (.rt d))))
theorem fs_rest {P : Program} {w : World} {K : PySem.W.Frag} {mg : Str → Option Value} {base : Heap} {cl : Nat → Addr} {TB : List (Addr × Str)} {C Pt : Addr} (T : TX K mg cl) (d__law_sounds : FnD P w K mg base cl TB 1 "_law_sounds" F__law_sounds) (d_all_canons : FnD P w K mg base cl TB 8 "all_canons" F_all_canons) (d_all_mirrors : FnD P w K mg base cl TB 8 "all_mirrors" F_all_mirrors) (d_backwards : FnD P w K mg base cl TB 1 "backwards" F_backwards) (d_crab : FnD P w K mg base cl TB 7 "crab" F_crab) (d_follows_at : FnD P w K mg base cl TB 7 "follows_at" F_follows_at) (d_may_sound : FnD P w K mg base cl TB 6 "may_sound" F_may_sound) (d_mirrored : FnD P w K mg base cl TB 3 "mirrored" F_mirrored) (d_overlap : FnD P w K mg base cl TB 1 "overlap" F_overlap) (d_round_may : FnD P w K mg base cl TB 7 "round_may" F_round_may) (d_tune_cost : FnD P w K mg base cl TB 3 "tune_cost" F_tune_cost) (RD : RollD P w K mg base) (TD : ToldD P w K mg base cl NL) (lt : (Pt, (("law" : Str) ++ (".<locals>." : Str)) ++ "<lambda>") ∈ TB) (lo : oneB TB Pt ((("law" : Str) ++ (".<locals>." : Str)) ++ "<lambda>") = true) (tb : LamX.TabB base mg C Pt) (E : XK) :
  FS ⟨P, w, K, mg, base, ["script", "dice", "wrong", "tune", "delay", "delays", "shifts", "due", "turned_now", "shift", "about", "later", "pairs", "k", "row", "pair", "note"], defScope s_law, 11, cl, E, fun _ => true, (TB, true), .ref C, ("law" : Str) ++ (".<locals>." : Str)⟩ ((defBody s_law).tail) b_rest :=
  have LD : LamD ⟨P, w, K, mg, base, ["script", "dice", "wrong", "tune", "delay", "delays", "shifts", "due", "turned_now", "shift", "about", "later", "pairs", "k", "row", "pair", "note"], defScope s_law, 11, cl, E, fun _ => true, (TB, true), .ref C, ("law" : Str) ++ (".<locals>." : Str)⟩ C Pt := ⟨rfl, lt, one_by lo, rfl, tb⟩
  (fs_cons (fs_set 2 sc_law.nd (fe_lst (fa_cons (fe_tup (fa_cons (fe_lam 3 ⟨LD.code, LD.T, LD.one, LD.law, LD.tb⟩) (fa_cons fe_str fa_nil))) (fa_cons (fe_tup (fa_cons (fe_lam 2 ⟨LD.code, LD.T, LD.one, LD.law, LD.tb⟩) (fa_cons fe_str fa_nil))) (fa_cons (fe_tup (fa_cons (fe_lam 1 ⟨LD.code, LD.T, LD.one, LD.law, LD.tb⟩) (fa_cons fe_str fa_nil))) (fa_cons (fe_tup (fa_cons (fe_lam 0 ⟨LD.code, LD.T, LD.one, LD.law, LD.tb⟩) (fa_cons fe_str fa_nil))) fa_nil)))))) (fs_cons (fs_if (ft_ne (fe_lc [("row", 14)] sc_law.nd (fi_seq (fe_lst (fa_cons (fe_tup (fa_cons fe_int (fa_cons fe_int (fa_cons fe_int fa_nil)))) (fa_cons (fe_tup (fa_cons fe_int (fa_cons fe_int (fa_cons fe_int (fa_cons fe_int fa_nil))))) (fa_cons (fe_tup (fa_cons fe_int (fa_cons fe_int (fa_cons fe_int fa_nil)))) fa_nil))))) (by kernel_rfl) (fg_name 14 sc_law.nd) fts_nil (fe_call d_round_may (fa_cons (fe_var 14) (fa_cons fe_int fa_nil))) (by decide)) (fe_lst (fa_cons fe_bl (fa_cons fe_bl (fa_cons fe_bl fa_nil))))) (fs_one (fs_ret fe_bl)) fs_nil) (fs_one (fs_ret (fe_eq (fe_lc [("pair", 15)] sc_law.nd (fi_seq (fe_var 2)) (by kernel_rfl) (fg_name 15 sc_law.nd) (fts_one (ft_ne (fe_toldK 8 TD ⟨LD.code, LD.T, LD.one, LD.law, LD.tb⟩ (lk_cons ⟨rfl, by kernel_rfl, rfl, by intros; rfl, fun E => (fe_call d_mirrored (fa_cons (fe_lst (fa_cons fe_int fa_nil)) (fa_cons fe_int fa_nil)))⟩ (lk_cons ⟨rfl, by kernel_rfl, rfl, by intros; rfl, fun E => (fe_call d_round_may (fa_cons (fe_lst (fa_cons fe_int (fa_cons fe_int fa_nil))) (fa_cons fe_int fa_nil)))⟩ (lk_cons ⟨rfl, by kernel_rfl, rfl, by intros; rfl, fun E => (fe_call d_round_may (fa_cons (fe_lst (fa_cons fe_int (fa_cons fe_int fa_nil))) (fa_cons fe_int fa_nil)))⟩ (lk_cons ⟨rfl, by kernel_rfl, rfl, by intros; rfl, fun E => (fe_call d_overlap (fa_cons (fe_lst (fa_cons fe_int fa_nil)) (fa_cons (fe_lst (fa_cons fe_int fa_nil)) (fa_cons (fe_sub fe_int fe_int) fa_nil))))⟩ lk_nil)))) (fe_ix (fe_var 15) fe_int)) (fe_ix (fe_var 15) fe_int))) (fe_var 15) (by decide)) (fe_lst fa_nil))))))
end V
set_option maxHeartbeats 4000000
namespace V
open PySem PySem.Spec L2 FL
theorem e_size (a b : Int) : F_size [.int a, .int b] = some (.ret (.int (absI (b - a)))) := rfl
theorem e_simple (a b : Int) : F_simple [.int a, .int b] = some (.ret (.int (absI (b - a) % 12))) := rfl
def perf (r : Int) : Bool := 0 == r || 7 == r
def soft (r : Int) : Bool := 3 == r || (4 == r || (8 == r || 9 == r))
def goes (r : Int) : Bool := perf r || soft r
theorem in2 (r : Int) : inX false (.int r) (.tup [.int 0, .int 7]) = some (.bl (perf r)) := by
  simp [inX, inD, inB, flatOf, flatL, inV, eqV, perf]
theorem in4 (r : Int) : inX false (.int r) (.tup [.int 3, .int 4, .int 8, .int 9]) = some (.bl (soft r)) := by
  simp [inX, inD, inB, flatOf, flatL, inV, eqV, soft]
theorem in2l (r : Int) : inX false (.int r) (.lst [.int 0, .int 7]) = some (.bl (perf r)) := by
  simp [inX, inD, inB, flatOf, flatL, inV, eqV, perf]
theorem in6l (r : Int) : inX true (.int r) (.lst [.int 0, .int 3, .int 4, .int 7, .int 8, .int 9]) = some (.bl (!goes r)) := by
  have h : inX true (.int r) (.lst [.int 0, .int 3, .int 4, .int 7, .int 8, .int 9]) = some (.bl (!(0 == r || (3 == r || (4 == r || (7 == r || (8 == r || 9 == r))))))) := by
    simp [inX, inD, inB, flatOf, flatL, inV, eqV]
  rw [h]
  congr 2
  unfold goes perf soft
  cases (0 == r) <;> cases (3 == r) <;> cases (4 == r) <;> cases (7 == r) <;> cases (8 == r) <;> cases (9 == r) <;> rfl
theorem e_perf (a b : Int) : F_is_perfect [.int a, .int b] = some (.ret (.bl (perf (absI (b - a) % 12)))) := by
  simp [F_is_perfect, b_is_perfect, defF, startD, seqS, thenS, FL.bindM, pureM, varM, liftO, FL.consM, callM, resM, callB, bin2, un1, tst, toB, FL.andM, FL.orM, FL.notM, andT, orT, iteM, chainM, tupM, lstM, intM, subD, mulD, modD, fdivD, addD, ltD, leD, gtD, geD, eqD_int, neD_int, eqD_bl, neD_bl, negD, int2, int2C, absD, lenD, FL.intD, outRes, nxS, bName, bTup, bCons, bNil, seqOf, e_simple, in2]
theorem e_goes (a b : Int) : F_goes_together [.int a, .int b] = some (.ret (.bl (goes (absI (b - a) % 12)))) := by
  unfold goes
  cases h : perf (absI (b - a) % 12) <;> simp [F_goes_together, b_goes_together, defF, startD, seqS, thenS, FL.bindM, pureM, varM, liftO, FL.consM, callM, resM, callB, bin2, un1, tst, toB, FL.andM, FL.orM, FL.notM, andT, orT, iteM, chainM, tupM, lstM, intM, subD, mulD, modD, fdivD, addD, ltD, leD, gtD, geD, eqD_int, neD_int, eqD_bl, neD_bl, negD, int2, int2C, absD, lenD, FL.intD, outRes, nxS, bName, bTup, bCons, bNil, seqOf, e_simple, in2, in4, h]
def ra (a b c d : Int) : Bool := perf (absI (c - a) % 12) && (!(a == b) && (!(c == d) && absI (c - a) % 12 == absI (d - b) % 12))
theorem e_ra (a b c d : Int) : F_runs_alike [.int a, .int b, .int c, .int d] = some (.ret (.bl (ra a b c d))) := by
  unfold ra
  by_cases h1 : a = b <;> by_cases h2 : c = d <;> cases h3 : perf (absI (c - a) % 12) <;> simp [F_runs_alike, b_runs_alike, defF, startD, seqS, thenS, FL.bindM, pureM, varM, liftO, FL.consM, callM, resM, callB, bin2, un1, tst, toB, FL.andM, FL.orM, FL.notM, andT, orT, iteM, chainM, tupM, lstM, intM, subD, mulD, modD, fdivD, addD, ltD, leD, gtD, geD, eqD_int, neD_int, eqD_bl, neD_bl, negD, int2, int2C, absD, lenD, FL.intD, outRes, nxS, bName, bTup, bCons, bNil, seqOf, e_perf, e_simple, h1, h2, h3]
  rw [beq_false_of_ne h1, beq_false_of_ne h2]; rfl
abbrev PD (p : Int × Int) : D := .tup [.int p.1, .int p.2]
def g1 (p : Int × Int) : Bool := goes (absI (p.2 - p.1) % 12)
def r2 (p q : Int × Int) : Bool := ra p.1 q.1 p.2 q.2
def ms (ps : List (Int × Int)) : Bool := !(ps.any fun p => !g1 p) && !((ps.zip ps.tail).any fun q => r2 q.1 q.2)
theorem anyD_pure {vs : List Nat} {bd : D → De → Option De} {fe : M D} {g : D → Bool} {δ : De} (hno : noOwn δ vs = true) : ∀ (ds : List D), (∀ d ∈ ds, ∃ δ1, bd d (wipeD δ vs) = some δ1 ∧ δ1.length = δ.length ∧ (∀ j, j ∉ vs → δ1[j]? = δ[j]?) ∧ fe δ1 = some (.ok (.bl (g d)) δ1)) →
    anyD true vs bd (pureM true) fe ds δ = some (.ok (ds.any g) δ)
  | [], _ => rfl
  | d :: r, h => by
    obtain ⟨δ1, h1, h2, h3, h4⟩ := h d (by simp)
    have ih := anyD_pure hno r fun x hx => h x (by simp [hx])
    rw [anyD, if_pos hno, h1]
    show (match fe δ1 with
      | some (.ok (.bl b) δ3) => if b = true then some (R.ok true (restD δ δ3 vs)) else anyD true vs bd (pureM true) fe r (restD δ δ3 vs)
      | _ => none) = _
    rw [h4]
    dsimp only
    rw [restD_id h2 h3, ih, List.any_cons]
    cases g d <;> simp
theorem anyM_pure {vs : List Nat} {bd : D → De → Option De} {fe : M D} {g : D → Bool} {items : M (List D)} {δ δ1 : De} {ds : List D} (hi : items δ = some (.ok ds δ1)) (hno : noOwn δ1 vs = true)
    (h : ∀ d ∈ ds, ∃ δ2, bd d (wipeD δ1 vs) = some δ2 ∧ δ2.length = δ1.length ∧ (∀ j, j ∉ vs → δ2[j]? = δ1[j]?) ∧ fe δ2 = some (.ok (.bl (g d)) δ2)) : anyM true vs bd (pureM true) fe items δ = some (.ok (.bl (ds.any g)) δ1) := by
  unfold anyM
  rw [bindM_ok hi, bindM_ok (anyD_pure hno ds h)]
  rfl
theorem notM_of {m : M D} {b : Bool} {δ δ1 : De} (h : m δ = some (.ok (.bl b) δ1)) : FL.notM m δ = some (.ok (.bl (!b)) δ1) := by
  unfold FL.notM
  rw [bindM_ok h]
  rfl
theorem seqS_rt {f g : Fo} {δ : De} {d : D} (h : f δ = some (.rt d)) : seqS f g δ = some (.rt d) := by unfold seqS; rw [h]
theorem zipL_map {α β : Type} (f : α → D) (g : β → D) : ∀ (xs : List α) (ys : List β), zipL (xs.map f) (ys.map g) = (xs.zip ys).map fun p => .tup [f p.1, g p.2]
  | [], _ => by simp [zipL]
  | _ :: _, [] => by simp [zipL]
  | x :: xs, y :: ys => by simp [zipL, zipL_map f g xs ys]
/-- what stands at 0: a list or a tuple of pairs -/
def stM (L : D) : De := [.val L, .un, .un, .un, .un]
theorem any1_of {L : D} {ps : List (Int × Int)} (hs : seqOf L = some (ps.map PD)) : anyM true [1, 2] (bTup (bCons (bName 1) (bCons (bName 2) (bNil)))) (pureM true) (notM (callM F_goes_together (consM (varM 1) (consM (varM 2) (pureM []))))) (seqM (varM 0)) (stM L) = some (.ok (.bl (ps.any fun p => !g1 p)) (stM L)) := by
  have hi : seqM (varM 0) (stM L) = some (.ok (ps.map PD) (stM L)) := by
    show (bindM (varM 0) fun d => liftO (seqOf d)) (stM L) = _
    rw [bindM_ok (var_of (d := L) rfl), hs]; rfl
  rw [anyM_pure (g := fun d => match d with | .tup [.int a, .int b] => !goes (absI (b - a) % 12) | _ => false) hi rfl fun d hd => ?_]
  · rw [List.any_map]; rfl
  · obtain ⟨p, hp, rfl⟩ := List.mem_map.mp hd
    obtain ⟨δ1, e1, rfl, e2, e3⟩ := bind2 (u := 1) (v := 2) (x := .int p.1) (y := .int p.2) (δ := stM L) (by decide)
    refine ⟨_, e1, e2, e3, ?_⟩
    have c := call_of (f := F_goes_together) (m := consM (varM 1) (consM (varM 2) (pureM []))) (δ := ((stM L).set 1 (.val (.int p.1))).set 2 (.val (.int p.2))) (cons_of (var_of rfl) (one_of (var_of rfl))) (e_goes p.1 p.2)
    exact notM_of c
theorem any2_of {L : D} {ps : List (Int × Int)} (hs : zipD [L, L] = zipD [L, L]) (hi : itM zipD (consM (varM 0) (consM (bindM (varM 0) fun d => bindM (intM (pureM (.int 1))) fun l => bindM (pureM none) fun h => liftO (slD d l h)) (pureM []))) (stM L) = some (.ok ((ps.zip ps.tail).map fun q => .tup [PD q.1, PD q.2]) (stM L))) :
    anyM true [3, 4] (bTup (bCons (bName 3) (bCons (bName 4) (bNil)))) (pureM true) (callM F_runs_alike (consM (bin2 ixD (varM 3) (pureM (.int 0))) (consM (bin2 ixD (varM 4) (pureM (.int 0))) (consM (bin2 ixD (varM 3) (pureM (.int 1))) (consM (bin2 ixD (varM 4) (pureM (.int 1))) (pureM [])))))) (itM zipD (consM (varM 0) (consM (bindM (varM 0) fun d => bindM (intM (pureM (.int 1))) fun l => bindM (pureM none) fun h => liftO (slD d l h)) (pureM [])))) (stM L) =
      some (.ok (.bl ((ps.zip ps.tail).any fun q => r2 q.1 q.2)) (stM L)) := by
  rw [anyM_pure (g := fun d => match d with | .tup [.tup [.int a, .int c], .tup [.int b, .int e]] => ra a b c e | _ => false) hi rfl fun d hd => ?_]
  · rw [List.any_map]; rfl
  · obtain ⟨q, hq, rfl⟩ := List.mem_map.mp hd
    obtain ⟨⟨a, c⟩, ⟨b, e⟩⟩ := q
    obtain ⟨δ1, e1, rfl, e2, e3⟩ := bind2 (u := 3) (v := 4) (x := PD (a, c)) (y := PD (b, e)) (δ := stM L) (by decide)
    refine ⟨_, e1, e2, e3, ?_⟩
    exact call_of (f := F_runs_alike) (δ := ((stM L).set 3 (.val (PD (a, c)))).set 4 (.val (PD (b, e)))) (cons_of (bin2_of (var_of rfl) rfl rfl) (cons_of (bin2_of (var_of rfl) rfl rfl) (cons_of (bin2_of (var_of rfl) rfl rfl) (one_of (bin2_of (var_of rfl) rfl rfl))))) (e_ra a b c e)
theorem e_may_of {L : D} {ps : List (Int × Int)} (hs : seqOf L = some (ps.map PD)) (hi : itM zipD (consM (varM 0) (consM (bindM (varM 0) fun d => bindM (intM (pureM (.int 1))) fun l => bindM (pureM none) fun h => liftO (slD d l h)) (pureM []))) (stM L) = some (.ok ((ps.zip ps.tail).map fun q => .tup [PD q.1, PD q.2]) (stM L))) :
    F_may_sound [L] = some (.ret (.bl (ms ps))) := by
  show outRes (b_may_sound (stM L)) = _
  have h1 := any1_of hs
  have h2 := any2_of (ps := ps) rfl hi
  unfold b_may_sound
  cases ha : ps.any fun p => !g1 p with
  | true =>
    rw [ha] at h1
    rw [seqS_rt (d := .bl false) (by rw [if_yes (tst_of h1)]; rfl)]
    unfold ms
    rw [ha]
    rfl
  | false =>
    rw [ha] at h1
    rw [rt_seq (if_no (tst_of h1)) rfl]
    rw [thenS_ok (notM_of h2)]
    unfold ms
    rw [ha]
    rfl
theorem e_mayL (ps : List (Int × Int)) : F_may_sound [.lst (ps.map PD)] = some (.ret (.bl (ms ps))) := by
  refine e_may_of rfl ?_
  refine itM_of (cons_of (var_of rfl) (one_of (d := .lst ((ps.tail).map PD)) ?_)) ?_
  · show some (R.ok (D.lst (cutL (ps.map PD) (some 1) none)) _) = _
    rw [cut_tail, List.map_tail]
  · show some (zipL _ _) = _
    rw [zipL_map]
theorem e_mayT (ps : List (Int × Int)) : F_may_sound [.tup (ps.map PD)] = some (.ret (.bl (ms ps))) := by
  refine e_may_of rfl ?_
  refine itM_of (cons_of (var_of rfl) (one_of (d := .tup ((ps.tail).map PD)) ?_)) ?_
  · show some (R.ok (D.tup (cutL (ps.map PD) (some 1) none)) _) = _
    rw [cut_tail, List.map_tail]
  · show some (zipL _ _) = _
    rw [zipL_map]

theorem absI_comm (a b : Int) : absI (a - b) = absI (b - a) := by
  unfold absI
  split <;> split <;> omega
theorem forD_ret {bd : D → De → Option De} {f : Fo} {J : De → Prop} {bad : D → Bool} {d : D} : ∀ (ds : List D) (δ : De), (∀ x ∈ ds, ∀ δ, J δ → ∃ δ1, bd x δ = some δ1 ∧ ((bad x = true ∧ f δ1 = some (.rt d)) ∨ (bad x = false ∧ ∃ δ2, f δ1 = some (.nx δ2) ∧ J δ2))) → J δ →
    (ds.any bad = true ∧ forD bd f ds δ = some (.rt d)) ∨ (ds.any bad = false ∧ ∃ δ', forD bd f ds δ = some (.nx δ') ∧ J δ')
  | [], δ, _, j => .inr ⟨rfl, δ, rfl, j⟩
  | x :: r, δ, h, j => by
    obtain ⟨δ1, h1, h2⟩ := h x (by simp) δ j
    rcases h2 with ⟨hb, h3⟩ | ⟨hb, δ2, h3, j2⟩
    · refine .inl ⟨by rw [List.any_cons, hb]; rfl, ?_⟩
      rw [forD, h1]
      dsimp only
      rw [h3]
    · rcases forD_ret r δ2 (fun y hy => h y (by simp [hy])) j2 with ⟨h4, h5⟩ | ⟨h4, δ', h5, j3⟩
      · refine .inl ⟨by rw [List.any_cons, hb, h4]; rfl, ?_⟩
        rw [forD, h1]
        dsimp only
        rw [h3]
        exact h5
      · refine .inr ⟨by rw [List.any_cons, hb, h4]; rfl, δ', ?_, j3⟩
        rw [forD, h1]
        dsimp only
        rw [h3]
        exact h5
def badN (ps : List (Int × Int)) (k : Nat) : Bool := !g1 (ps.getD k (0, 0)) || (decide (0 < k) && r2 (ps.getD (k - 1) (0, 0)) (ps.getD k (0, 0)))
def badD (ps : List (Int × Int)) : D → Bool
  | .int k => badN ps k.toNat
  | _ => false
theorem any_bad (ps : List (Int × Int)) : ((List.range ps.length).any (badN ps)) = !ms ps := by
  unfold ms
  rw [Bool.eq_iff_iff]
  simp only [List.any_eq_true, List.mem_range, badN, Bool.or_eq_true, Bool.not_eq_true', Bool.and_eq_true, decide_eq_true_eq, Bool.and_eq_false_iff, Bool.not_eq_false', Prod.exists]
  have gd : ∀ {k : Nat} (hk : k < ps.length), ps.getD k (0, 0) = ps[k] := fun {k} hk => by rw [List.getD_eq_getElem?_getD, List.getElem?_eq_getElem hk]; rfl
  have zt : ∀ {k : Nat} (hk : k + 1 < ps.length), (ps.zip ps.tail)[k]? = some (ps.getD k (0, 0), ps.getD (k + 1) (0, 0)) := fun {k} hk => by
    rw [List.getElem?_zip_eq_some]
    refine ⟨?_, ?_⟩
    · rw [gd (by omega)]; exact List.getElem?_eq_getElem (by omega)
    · rw [List.getElem?_tail, gd hk]; exact List.getElem?_eq_getElem hk
  constructor
  · rintro ⟨k, hk, h⟩
    rcases h with h | ⟨h0, h⟩
    · left
      rw [gd hk] at h
      exact ⟨ps[k].1, ps[k].2, List.getElem_mem hk, h⟩
    · right
      obtain ⟨j, rfl⟩ : ∃ j, k = j + 1 := ⟨k - 1, by omega⟩
      have := List.mem_of_getElem? (zt hk)
      rw [show j + 1 - 1 = j by omega] at h
      exact ⟨(ps.getD j (0, 0)).1, (ps.getD j (0, 0)).2, (ps.getD (j + 1) (0, 0)).1, (ps.getD (j + 1) (0, 0)).2, this, h⟩
  · rintro (⟨a, b, hm, h⟩ | ⟨a, b, c, d, hm, h⟩)
    · obtain ⟨k, hk, e⟩ := List.getElem_of_mem hm
      exact ⟨k, hk, .inl (by rw [gd hk, e]; exact h)⟩
    · obtain ⟨k, hk, e⟩ := List.getElem_of_mem hm
      have hk' : k + 1 < ps.length := by
        rw [List.length_zip, List.length_tail] at hk
        omega
      have e2 := zt hk'
      rw [List.getElem?_eq_getElem hk, e] at e2
      obtain ⟨ea, eb⟩ := Prod.mk.inj (Option.some.inj e2)
      exact ⟨k + 1, hk', .inr ⟨by omega, by rw [show k + 1 - 1 = k by omega, ← ea, ← eb]; exact h⟩⟩
theorem ix_pair {ps : List (Int × Int)} {k : Nat} (h : k < ps.length) : ixD (.lst (ps.map PD)) (.int (k : Int)) = some (PD (ps.getD k (0, 0))) := by
  show L2.atI (ps.map PD) (k : Int) = _
  refine L2.atI_nat ?_
  rw [List.getElem?_map, List.getD_eq_getElem?_getD, List.getElem?_eq_getElem h]
  rfl
def JL (ps : List (Int × Int)) (δ : De) : Prop := ∃ s1 s2 s3 s4 s5 s6 : Sl, δ = [.val (.lst (ps.map PD)), s1, s2, s3, s4, s5, s6]
def lsBody : Fo := (seqS (thenS (bin2 ixD (varM 0) (varM 1)) fun d δ => (bTup (bCons (bName 2) (bCons (bName 3) (bNil))) d δ).map .nx) (seqS (thenS (tst (bin2 (inX true) (bin2 modD (callB absD (consM (bin2 subD (varM 2) (varM 3)) (pureM []))) (pureM (.int 12))) (lstM (consM (pureM (.int 0)) (consM (pureM (.int 3)) (consM (pureM (.int 4)) (consM (pureM (.int 7)) (consM (pureM (.int 8)) (consM (pureM (.int 9)) (pureM [])))))))))) fun k => if k then (thenS (pureM (.bl false)) fun d _ => some (.rt d)) else nxS) (thenS (tst (bin2 gtD (varM 1) (pureM (.int 0)))) fun k => if k then (seqS (thenS (bin2 ixD (varM 0) (bin2 subD (varM 1) (pureM (.int 1)))) fun d δ => (bTup (bCons (bName 5) (bCons (bName 6) (bNil))) d δ).map .nx) (seqS (thenS (bin2 (inX false) (bin2 modD (callB absD (consM (bin2 subD (varM 2) (varM 3)) (pureM []))) (pureM (.int 12))) (lstM (consM (pureM (.int 0)) (consM (pureM (.int 7)) (pureM []))))) fun d δ => some (.nx (δ.set 4 (.val d)))) (thenS (andT (tst (varM 4)) (andT (tst (bin2 eqD (bin2 modD (callB absD (consM (bin2 subD (varM 2) (varM 3)) (pureM []))) (pureM (.int 12))) (bin2 modD (callB absD (consM (bin2 subD (varM 5) (varM 6)) (pureM []))) (pureM (.int 12))))) (andT (tst (bin2 neD (varM 2) (varM 5))) (tst (bin2 neD (varM 3) (varM 6)))))) fun k => if k then (thenS (pureM (.bl false)) fun d _ => some (.rt d)) else nxS))) else nxS)))
theorem r2_eq (p q : Int × Int) : r2 p q = (perf (absI (q.1 - q.2) % 12) && ((absI (q.1 - q.2) % 12 == absI (p.1 - p.2) % 12) && (!(q.1 == p.1) && !(q.2 == p.2)))) := by
  unfold r2 ra
  rw [absI_comm q.1 q.2, absI_comm p.1 p.2, Bool.eq_iff_iff]
  simp only [Bool.and_eq_true, Bool.not_eq_true', beq_eq_false_iff_ne, beq_iff_eq, ne_eq]
  constructor
  · rintro ⟨h1, h2, h3, h4⟩
    exact ⟨by rw [← h4]; exact h1, h4.symm, fun e => h2 e.symm, fun e => h3 e.symm⟩
  · rintro ⟨h1, h2, h3, h4⟩
    exact ⟨by rw [← h2]; exact h1, fun e => h3 e.symm, fun e => h4 e.symm, h2.symm⟩
theorem ls_turn (ps : List (Int × Int)) {k : Nat} (hk : k < ps.length) (s2 s3 s4 s5 s6 : Sl) :
    (badN ps k = true ∧ lsBody [.val (.lst (ps.map PD)), .val (.int k), s2, s3, s4, s5, s6] = some (.rt (.bl false))) ∨ (badN ps k = false ∧ ∃ δ2, lsBody [.val (.lst (ps.map PD)), .val (.int k), s2, s3, s4, s5, s6] = some (.nx δ2) ∧ JL ps δ2) := by
  have hp := ix_pair hk
  have hq : 0 < k → ixD (.lst (ps.map PD)) (.int ((k : Int) - 1)) = some (PD (ps.getD (k - 1) (0, 0))) := fun h0 => by
    have := ix_pair (ps := ps) (k := k - 1) (by omega)
    rwa [show ((k - 1 : Nat) : Int) = (k : Int) - 1 by omega] at this
  unfold badN
  generalize ps.getD k (0, 0) = q at *
  generalize ps.getD (k - 1) (0, 0) = p at *
  obtain ⟨a, c⟩ := q
  obtain ⟨b, d⟩ := p
  generalize hL : D.lst (ps.map PD) = L at *
  have e1 : (thenS (bin2 ixD (varM 0) (varM 1)) fun d δ => (bTup (bCons (bName 2) (bCons (bName 3) (bNil))) d δ).map Out.nx) [.val L, .val (.int k), s2, s3, s4, s5, s6] = some (.nx [.val L, .val (.int k), .val (.int a), .val (.int c), s4, s5, s6]) := by
    rw [thenS_ok (bin2_of (var_of rfl) (var_of rfl) hp)]; rfl
  have e2 : tst (bin2 (inX true) (bin2 modD (callB absD (consM (bin2 subD (varM 2) (varM 3)) (pureM []))) (pureM (.int 12))) (lstM (consM (pureM (.int 0)) (consM (pureM (.int 3)) (consM (pureM (.int 4)) (consM (pureM (.int 7)) (consM (pureM (.int 8)) (consM (pureM (.int 9)) (pureM [])))))))))
      [.val L, .val (.int k), .val (.int a), .val (.int c), s4, s5, s6] = some (.ok (!g1 (a, c)) [.val L, .val (.int k), .val (.int a), .val (.int c), s4, s5, s6]) := by
    refine tst_of (bin2_of (x := .int (absI (a - c) % 12)) (y := .lst [.int 0, .int 3, .int 4, .int 7, .int 8, .int 9]) rfl rfl ?_)
    rw [in6l]
    unfold g1
    rw [absI_comm c a]
  unfold lsBody
  rw [rt_seq e1 rfl]
  cases hg : g1 (a, c) with
  | false =>
    rw [hg] at e2
    refine .inl ⟨by simp, seqS_rt ?_⟩
    rw [if_yes e2]
    rfl
  | true =>
    rw [hg] at e2
    rw [rt_seq (if_no e2) rfl]
    have e3 : tst (bin2 gtD (varM 1) (pureM (.int 0))) [.val L, .val (.int k), .val (.int a), .val (.int c), s4, s5, s6] = some (.ok (decide (0 < k)) [.val L, .val (.int k), .val (.int a), .val (.int c), s4, s5, s6]) := by
      refine tst_of (bin2_of (var_of rfl) rfl ?_)
      show some (D.bl (decide ((k : Int) > 0))) = _
      congr 2
      exact decide_eq_decide.mpr (by omega)
    by_cases h0 : 0 < k
    · rw [decide_eq_true h0] at e3 ⊢
      rw [if_yes e3]
      have e4 : (thenS (bin2 ixD (varM 0) (bin2 subD (varM 1) (pureM (.int 1)))) fun d δ => (bTup (bCons (bName 5) (bCons (bName 6) (bNil))) d δ).map Out.nx) [.val L, .val (.int k), .val (.int a), .val (.int c), s4, s5, s6] = some (.nx [.val L, .val (.int k), .val (.int a), .val (.int c), s4, .val (.int b), .val (.int d)]) := by
        rw [thenS_ok (bin2_of (var_of rfl) (bin2_of (var_of rfl) rfl rfl) (hq h0))]; rfl
      have e5 : (thenS (bin2 (inX false) (bin2 modD (callB absD (consM (bin2 subD (varM 2) (varM 3)) (pureM []))) (pureM (.int 12))) (lstM (consM (pureM (.int 0)) (consM (pureM (.int 7)) (pureM []))))) fun d δ => some (Out.nx (δ.set 4 (.val d)))) [.val L, .val (.int k), .val (.int a), .val (.int c), s4, .val (.int b), .val (.int d)] =
          some (.nx [.val L, .val (.int k), .val (.int a), .val (.int c), .val (.bl (perf (absI (a - c) % 12))), .val (.int b), .val (.int d)]) := by
        rw [thenS_ok (bin2_of (x := .int (absI (a - c) % 12)) (y := .lst [.int 0, .int 7]) rfl rfl (in2l _))]; rfl
      rw [rt_seq e4 rfl, rt_seq e5 rfl, r2_eq]
      have f2 : tst (bin2 eqD (bin2 modD (callB absD (consM (bin2 subD (varM 2) (varM 3)) (pureM []))) (pureM (.int 12))) (bin2 modD (callB absD (consM (bin2 subD (varM 5) (varM 6)) (pureM []))) (pureM (.int 12)))) [.val L, .val (.int k), .val (.int a), .val (.int c), .val (.bl (perf (absI (a - c) % 12))), .val (.int b), .val (.int d)] =
          some (.ok (absI (a - c) % 12 == absI (b - d) % 12) [.val L, .val (.int k), .val (.int a), .val (.int c), .val (.bl (perf (absI (a - c) % 12))), .val (.int b), .val (.int d)]) := eq_of (x := .int (absI (a - c) % 12)) (y := .int (absI (b - d) % 12)) rfl rfl (eqB_int _ _)
      have f3 : tst (bin2 neD (varM 2) (varM 5)) [.val L, .val (.int k), .val (.int a), .val (.int c), .val (.bl (perf (absI (a - c) % 12))), .val (.int b), .val (.int d)] = some (.ok (!(a == b)) [.val L, .val (.int k), .val (.int a), .val (.int c), .val (.bl (perf (absI (a - c) % 12))), .val (.int b), .val (.int d)]) := tst_of (bin2_of (var_of rfl) (var_of rfl) (neD_int _ _))
      have f4 : tst (bin2 neD (varM 3) (varM 6)) [.val L, .val (.int k), .val (.int a), .val (.int c), .val (.bl (perf (absI (a - c) % 12))), .val (.int b), .val (.int d)] = some (.ok (!(c == d)) [.val L, .val (.int k), .val (.int a), .val (.int c), .val (.bl (perf (absI (a - c) % 12))), .val (.int b), .val (.int d)]) := tst_of (bin2_of (var_of rfl) (var_of rfl) (neD_int _ _))
      have f1 : tst (varM 4) [.val L, .val (.int k), .val (.int a), .val (.int c), .val (.bl (perf (absI (a - c) % 12))), .val (.int b), .val (.int d)] = some (.ok (perf (absI (a - c) % 12)) [.val L, .val (.int k), .val (.int a), .val (.int c), .val (.bl (perf (absI (a - c) % 12))), .val (.int b), .val (.int d)]) := tst_of (var_of rfl)
      have jl : JL ps [.val L, .val (.int k), .val (.int a), .val (.int c), .val (.bl (perf (absI (a - c) % 12))), .val (.int b), .val (.int d)] := ⟨_, _, _, _, _, _, by rw [hL]⟩
      generalize [Sl.val L, .val (.int k), .val (.int a), .val (.int c), .val (.bl (perf (absI (a - c) % 12))), .val (.int b), .val (.int d)] = δ at *
      dsimp only
      have all : ∀ w : Bool, andT (tst (varM 4)) (andT (tst (bin2 eqD (bin2 modD (callB absD (consM (bin2 subD (varM 2) (varM 3)) (pureM []))) (pureM (.int 12))) (bin2 modD (callB absD (consM (bin2 subD (varM 5) (varM 6)) (pureM []))) (pureM (.int 12))))) (andT (tst (bin2 neD (varM 2) (varM 5))) (tst (bin2 neD (varM 3) (varM 6))))) δ = some (.ok w δ) → w = (perf (absI (a - c) % 12) && ((absI (a - c) % 12 == absI (b - d) % 12) && (!(a == b) && !(c == d)))) →
          ((!true || (true && (perf (absI (a - c) % 12) && ((absI (a - c) % 12 == absI (b - d) % 12) && (!(a == b) && !(c == d)))))) = true ∧ (thenS (andT (tst (varM 4)) (andT (tst (bin2 eqD (bin2 modD (callB absD (consM (bin2 subD (varM 2) (varM 3)) (pureM []))) (pureM (.int 12))) (bin2 modD (callB absD (consM (bin2 subD (varM 5) (varM 6)) (pureM []))) (pureM (.int 12))))) (andT (tst (bin2 neD (varM 2) (varM 5))) (tst (bin2 neD (varM 3) (varM 6)))))) fun k => if k then (thenS (pureM (.bl false)) fun d _ => some (.rt d)) else nxS) δ = some (.rt (.bl false))) ∨
          ((!true || (true && (perf (absI (a - c) % 12) && ((absI (a - c) % 12 == absI (b - d) % 12) && (!(a == b) && !(c == d)))))) = false ∧ ∃ δ2, (thenS (andT (tst (varM 4)) (andT (tst (bin2 eqD (bin2 modD (callB absD (consM (bin2 subD (varM 2) (varM 3)) (pureM []))) (pureM (.int 12))) (bin2 modD (callB absD (consM (bin2 subD (varM 5) (varM 6)) (pureM []))) (pureM (.int 12))))) (andT (tst (bin2 neD (varM 2) (varM 5))) (tst (bin2 neD (varM 3) (varM 6)))))) fun k => if k then (thenS (pureM (.bl false)) fun d _ => some (.rt d)) else nxS) δ = some (.nx δ2) ∧ JL ps δ2) := fun w hw ew => by
        rw [← ew]
        cases w with
        | true => exact .inl ⟨rfl, by rw [if_yes hw]; rfl⟩
        | false => exact .inr ⟨rfl, δ, by rw [if_no hw], jl⟩
      cases h1 : perf (absI (a - c) % 12) with
      | false => rw [h1] at f1 all; exact all false (and_no1 f1) rfl
      | true =>
        rw [h1] at f1 all
        cases h2 : absI (a - c) % 12 == absI (b - d) % 12 with
        | false => rw [h2] at f2 all; exact all false (and_2 f1 (and_no1 f2)) rfl
        | true =>
          rw [h2] at f2 all
          cases h3 : !(a == b) with
          | false => rw [h3] at f3 all; exact all false (and_2 f1 (and_2 f2 (and_no1 f3))) rfl
          | true => rw [h3] at f3 all; exact all _ (and_2 f1 (and_2 f2 (and_2 f3 f4))) (by simp)
    · rw [decide_eq_false h0] at e3 ⊢
      rw [if_not e3]
      exact .inr ⟨by simp, _, rfl, ⟨_, _, _, _, _, _, by rw [hL]⟩⟩
theorem e_ls (ps : List (Int × Int)) (hl : ps.length < 1000000) : F__law_sounds [.lst (ps.map PD)] = some (.ret (.bl (ms ps))) := by
  show outRes (b__law_sounds [.val (.lst (ps.map PD)), .un, .un, .un, .un, .un, .un]) = _
  have hi : itM rng1 (consM (callB lenD (consM (varM 0) (pureM []))) (pureM [])) [.val (.lst (ps.map PD)), .un, .un, .un, .un, .un, .un] = some (.ok (rangeL 0 ps.length) [.val (.lst (ps.map PD)), .un, .un, .un, .un, .un, .un]) := by
    refine itM_of (one_of (cb_of (one_of (var_of rfl)) (d := .int (ps.length : Int)) ?_)) (rng1_len hl)
    show some (D.int ((ps.map PD).length : Int)) = _
    rw [List.length_map]
  have hf := forD_ret (bd := bName 1) (f := lsBody) (J := JL ps) (bad := badD ps) (d := .bl false) (rangeL 0 ps.length) [.val (.lst (ps.map PD)), .un, .un, .un, .un, .un, .un] (fun x hx δ j => by
    obtain ⟨k, hk, rfl⟩ := rangeL_mem hx
    obtain ⟨s1, s2, s3, s4, s5, s6, rfl⟩ := j
    refine ⟨_, rfl, ?_⟩
    have := ls_turn ps hk s2 s3 s4 s5 s6
    rw [show (0 : Int) + (k : Int) = k by omega]
    exact this) ⟨_, _, _, _, _, _, rfl⟩
  have hany : (rangeL 0 ps.length).any (badD ps) = !ms ps := by
    rw [← any_bad]
    unfold rangeL
    rw [List.any_map]
    have e : (badD ps ∘ fun k : Nat => D.int ((0 : Int) + (k : Int))) = badN ps := by
      funext k
      simp only [Function.comp, badD]
      rw [Int.zero_add, Int.toNat_natCast]
    rw [e]
  rw [hany] at hf
  unfold b__law_sounds
  rcases hf with ⟨h1, h2⟩ | ⟨h1, δ', h2, j⟩
  · have hm : ms ps = false := by cases h : ms ps <;> rw [h] at h1 <;> simp at h1 <;> rfl
    rw [seqS_rt (d := .bl false) (by rw [thenS_ok hi]; exact h2), hm]
    rfl
  · have hm : ms ps = true := by cases h : ms ps <;> rw [h] at h1 <;> simp at h1 <;> rfl
    rw [rt_seq (δ' := δ') (by rw [thenS_ok hi]; exact h2) rfl, hm]
    rfl

abbrev IL (xs : List Int) : D := .lst (xs.map D.int)
abbrev IT (xs : List Int) : D := .tup (xs.map D.int)
theorem cut_drop {α : Type} (xs : List α) (d : Nat) : cutL xs (some (d : Int)) none = xs.drop d := by
  unfold cutL
  rw [HT.sIx_nat, HT.sIx_none]
  by_cases h : d ≤ xs.length
  · rw [Nat.min_eq_left h]
    exact List.take_of_length_le (by rw [List.length_drop]; omega)
  · rw [Nat.min_eq_right (by omega), List.drop_eq_nil_of_le (Nat.le_refl _), List.drop_eq_nil_of_le (by omega)]
    simp
theorem zip2_map (xs ys : List Int) : zip2 (xs.map D.int) (ys.map D.int) = (xs.zip ys).map PD := by
  unfold zip2
  rw [List.zipWith_map, List.zip_eq_zipWith, List.map_zipWith]
theorem e_over {X : D} (T U : List Int) (d : Nat) (hX : seqOf X = some (U.map D.int)) : F_overlap [IL T, X, .int (d : Int)] = some (.ret (.tup (((T.drop d).zip U).map PD))) := by
  show outRes (b_overlap [.val (IL T), .val X, .val (.int (d : Int))]) = _
  unfold b_overlap
  have h0 : tst (bin2 ltD (varM 2) (pureM (.int 0))) [.val (IL T), .val X, .val (.int (d : Int))] = some (.ok false [.val (IL T), .val X, .val (.int (d : Int))]) := by
    refine tst_of (bin2_of (var_of rfl) rfl ?_)
    show some (D.bl (decide ((d : Int) < 0))) = _
    rw [decide_eq_false (by omega)]
  rw [rt_seq (if_no h0) rfl]
  have h1 : tupZipM (consM (bindM (varM 0) fun d => bindM (intM (varM 2)) fun l => bindM (pureM none) fun h => liftO (slD d l h)) (consM (varM 1) (pureM []))) [.val (IL T), .val X, .val (.int (d : Int))] = some (.ok (.tup (((T.drop d).zip U).map PD)) [.val (IL T), .val X, .val (.int (d : Int))]) := by
    unfold tupZipM
    rw [bindM_ok (cons_of (d := IL (T.drop d)) (by
      show some (R.ok (D.lst (cutL (T.map D.int) (some (d : Int)) none)) _) = _
      rw [cut_drop, ← List.map_drop]) (one_of (var_of (d := X) rfl)))]
    show liftO (tupZipD [IL (T.drop d), X]) _ = _
    unfold tupZipD
    dsimp only
    rw [hX]
    show some (R.ok (D.tup (zip2 ((T.drop d).map D.int) (U.map D.int))) _) = _
    rw [zip2_map]
  rw [thenS_ok h1]
  rfl
/-- a comprehension over the ints of a list -/
theorem lc_ints {v : Nat} {fe : M D} {g : Int → Int} {δ : De} {X : D} {T : List Int} {i : Nat} (hX : seqOf X = some (T.map D.int)) (h0 : δ[i]? = some (.val X)) (hl : T.length < 1000000) (hv : ownAt δ v = none)
    (h : ∀ n ∈ T, fe (δ.set v (.val (.int n))) = some (.ok (.int (g n)) (δ.set v (.val (.int n))))) : lcM [v] (bName v) (pureM true) fe (seqM (varM i)) δ = some (.ok (IL (T.map g)) δ) := by
  have hi : seqM (varM i) δ = some (.ok (T.map D.int) δ) := by
    unfold seqM
    rw [bindM_ok (var_of h0), hX]
    rfl
  rw [lcM_map (g := fun d => match d with | .int n => .int (g n) | d => d) hi (by rw [List.length_map]; exact hl) (by unfold noOwn; simp [hv]) fun d hd => ?_]
  · rw [List.map_map, show IL (T.map g) = D.lst ((T.map g).map D.int) from rfl, List.map_map]; rfl
  · obtain ⟨n, hn, rfl⟩ := List.mem_map.mp hd
    obtain ⟨δ1, e1, rfl, e2, e3⟩ := bind1 (v := v) (d := .int n) (δ := δ)
    exact ⟨_, e1, e2, e3, h n hn⟩
theorem e_follows (T : List Int) (d : Nat) (s : Int) (hl : T.length < 1000000) : F_follows_at [IL T, .int (d : Int), .int s] = some (.ret (.bl (ms ((T.drop d).zip (T.map (· + s)))))) := by
  show outRes (b_follows_at [.val (IL T), .val (.int (d : Int)), .val (.int s), .un]) = _
  unfold b_follows_at
  have h1 : lcM [3] (bName 3) (pureM true) (bin2 addD (varM 3) (varM 2)) (seqM (varM 0)) [.val (IL T), .val (.int (d : Int)), .val (.int s), .un] = some (.ok (IL (T.map (· + s))) [.val (IL T), .val (.int (d : Int)), .val (.int s), .un]) :=
    lc_ints (g := (· + s)) (X := IL T) rfl rfl hl rfl fun n _ => bin2_of (var_of rfl) (var_of rfl) rfl
  have h2 := call_of (cons_of (var_of (i := 0) (d := IL T) rfl) (cons_of h1 (one_of (var_of (i := 1) rfl)))) (e_over T (T.map (· + s)) d rfl)
  rw [thenS_ok (call_of (one_of h2) (e_mayT _))]
  rfl
theorem e_mirf (T : List Int) (d : Nat) (a : Int) (hl : T.length < 1000000) : F_mirror_follows [IL T, .int (d : Int), .int a] = some (.ret (.bl (ms ((T.drop d).zip (T.map (a - ·)))))) := by
  show outRes (b_mirror_follows [.val (IL T), .val (.int (d : Int)), .val (.int a), .un]) = _
  unfold b_mirror_follows
  have h1 : lcM [3] (bName 3) (pureM true) (bin2 subD (varM 2) (varM 3)) (seqM (varM 0)) [.val (IL T), .val (.int (d : Int)), .val (.int a), .un] = some (.ok (IL (T.map (a - ·))) [.val (IL T), .val (.int (d : Int)), .val (.int a), .un]) :=
    lc_ints (g := (a - ·)) (X := IL T) rfl rfl hl rfl fun n _ => bin2_of (var_of rfl) (var_of rfl) rfl
  have h2 := call_of (cons_of (var_of (i := 0) (d := IL T) rfl) (cons_of h1 (one_of (var_of (i := 1) rfl)))) (e_over T (T.map (a - ·)) d rfl)
  rw [thenS_ok (call_of (one_of h2) (e_mayT _))]
  rfl
theorem e_back (T : List Int) : F_backwards [IL T] = some (.ret (IT T.reverse)) := by
  show some (Res.ret (D.tup (T.map D.int).reverse)) = _
  rw [← List.map_reverse]
theorem e_crab (T : List Int) : F_crab [IL T] = some (.ret (.bl (ms (T.zip T.reverse)))) := by
  show outRes (b_crab [.val (IL T)]) = _
  unfold b_crab
  have h1 := call_of (one_of (var_of (i := 0) (d := IL T) (δ := [.val (IL T)]) rfl)) (e_back T)
  have h2 := call_of (cons_of (var_of (i := 0) (d := IL T) rfl) (cons_of h1 (one_of (δ := [.val (IL T)]) (m := pureM (.int 0)) rfl))) (e_over T T.reverse 0 rfl)
  rw [thenS_ok (call_of (one_of h2) (e_mayT _))]
  rfl
theorem e_check {n : Int} (h0 : 0 ≤ n) (h1 : n ≤ 120) : F_check_note [.int n] = some (.ret (.int n)) := by
  simp [F_check_note, b_check_note, defF, startD, seqS, thenS, FL.bindM, pureM, varM, liftO, FL.consM, callM, resM, callB, bin2, un1, tst, toB, FL.andM, FL.orM, FL.notM, andT, orT, iteM, chainM, tupM, lstM, intM, subD, mulD, modD, fdivD, addD, ltD, leD, gtD, geD, eqD_int, neD_int, eqD_bl, neD_bl, negD, int2, int2C, absD, lenD, FL.intD, outRes, nxS, bName, bTup, bCons, bNil, seqOf, h0, h1]
theorem e_mirr {X : D} (T : List Int) (a : Int) (hX : seqOf X = some (T.map D.int)) (hl : T.length < 1000000) (h : ∀ n ∈ T, 0 ≤ a - n ∧ a - n ≤ 120) : F_mirrored [X, .int a] = some (.ret (IT (T.map (a - ·)))) := by
  show outRes (b_mirrored [.val X, .val (.int a), .un]) = _
  unfold b_mirrored
  have h1 : lcM [2] (bName 2) (pureM true) (callM F_turned (consM (varM 2) (consM (varM 1) (pureM [])))) (seqM (varM 0)) [.val X, .val (.int a), .un] = some (.ok (IL (T.map (a - ·))) [.val X, .val (.int a), .un]) :=
    lc_ints (g := (a - ·)) (X := X) hX rfl hl rfl fun n hn => call_of (f := F_turned) (cons_of (var_of rfl) (one_of (var_of rfl))) (by
      show outRes (b_turned [.val (.int n), .val (.int a)]) = _
      unfold b_turned
      rw [thenS_ok (call_of (one_of (bin2_of (var_of rfl) (var_of rfl) rfl)) (e_check (h n hn).1 (h n hn).2))]
      rfl)
  rw [thenS_ok (cb_of (one_of (lcMX_of h1)) rfl)]
  rfl
def mvc (a b : Int) : Int := if a = b then 2 else absI (b - a)
theorem e_mvc (a b : Int) : F_move_cost [.int a, .int b] = some (.ret (.int (mvc a b))) := by
  unfold mvc
  by_cases h : a = b <;> simp [F_move_cost, b_move_cost, defF, startD, seqS, thenS, FL.bindM, pureM, varM, liftO, FL.consM, callM, resM, callB, bin2, un1, tst, toB, FL.andM, FL.orM, FL.notM, andT, orT, iteM, chainM, tupM, lstM, intM, subD, mulD, modD, fdivD, addD, ltD, leD, gtD, geD, eqD_int, neD_int, eqD_bl, neD_bl, negD, int2, int2C, absD, lenD, FL.intD, outRes, nxS, bName, bTup, bCons, bNil, seqOf, e_size, h]
theorem intsOf_map : ∀ xs : List Int, intsOf (xs.map D.int) = some xs
  | [] => rfl
  | x :: xs => by simp [intsOf, intsOf_map xs]
theorem e_cost (T : List Int) (hl : T.length < 1000000) : F_tune_cost [IL T] = some (.ret (.int ((T.zip T.tail).map fun p => mvc p.1 p.2).sum)) := by
  show outRes (b_tune_cost [.val (IL T), .un, .un]) = _
  unfold b_tune_cost
  have hi : itM zipD (consM (varM 0) (consM (bindM (varM 0) fun d => bindM (intM (pureM (.int 1))) fun l => bindM (pureM none) fun h => liftO (slD d l h)) (pureM []))) [.val (IL T), .un, .un] = some (.ok ((T.zip T.tail).map PD) [.val (IL T), .un, .un]) := by
    refine itM_of (cons_of (var_of rfl) (one_of (d := IL T.tail) ?_)) ?_
    · show some (R.ok (D.lst (cutL (T.map D.int) (some 1) none)) _) = _
      rw [cut_tail, ← List.map_tail]
    · show some (zipL _ _) = _
      rw [zipL_ints]
  have h1 : lcM [1, 2] (bTup (bCons (bName 1) (bCons (bName 2) (bNil)))) (pureM true) (callM F_move_cost (consM (varM 1) (consM (varM 2) (pureM [])))) (itM zipD (consM (varM 0) (consM (bindM (varM 0) fun d => bindM (intM (pureM (.int 1))) fun l => bindM (pureM none) fun h => liftO (slD d l h)) (pureM [])))) [.val (IL T), .un, .un] =
      some (.ok (IL ((T.zip T.tail).map fun p => mvc p.1 p.2)) [.val (IL T), .un, .un]) := by
    rw [lcM_map (g := fun d => match d with | .tup [.int a, .int b] => .int (mvc a b) | d => d) hi (by rw [List.length_map, List.length_zip]; exact Nat.lt_of_le_of_lt (Nat.min_le_left _ _) hl) rfl fun d hd => ?_]
    · rw [List.map_map, show IL ((T.zip T.tail).map fun p => mvc p.1 p.2) = D.lst (((T.zip T.tail).map fun p => mvc p.1 p.2).map D.int) from rfl, List.map_map]; rfl
    · obtain ⟨p, hp, rfl⟩ := List.mem_map.mp hd
      obtain ⟨δ1, e1, rfl, e2, e3⟩ := bind2 (u := 1) (v := 2) (x := .int p.1) (y := .int p.2) (δ := [.val (IL T), .un, .un]) (by decide)
      exact ⟨_, e1, e2, e3, call_of (cons_of (var_of rfl) (one_of (var_of rfl))) (e_mvc p.1 p.2)⟩
  rw [thenS_ok (cb_of (one_of h1) (d := .int ((T.zip T.tail).map fun p => mvc p.1 p.2).sum) (by show (intsOf (List.map D.int _)).map (fun ns => D.int ns.sum) = _; rw [intsOf_map]; rfl))]
  rfl

abbrev PL (ps : List (Int × Int)) : D := .lst (ps.map PD)
abbrev PT (ps : List (Int × Int)) : D := .tup (ps.map PD)
def pyP (p : Int × Int) : PyData := .tuple [.int p.1, .int p.2]
theorem toPy_pairs : ∀ ps : List (Int × Int), toPyL (ps.map PD) = some (ps.map pyP)
  | [] => rfl
  | p :: ps => by rw [List.map_cons, toPyL, toPy_pairs ps]; rfl
theorem lay_pairs : ∀ ps : List (Int × Int), PyData.canLayAll0 (ps.map pyP) = true
  | [] => rfl
  | p :: ps => by rw [List.map_cons, PyData.canLayAll0, lay_pairs ps]; rfl
theorem depth_pairs : ∀ ps : List (Int × Int), PyData.depthAll (ps.map pyP) ≤ 1
  | [] => by simp [PyData.depthAll]
  | p :: ps => by
    have := depth_pairs ps
    rw [List.map_cons, PyData.depthAll]
    have e : PyData.depth (pyP p) = 1 := by simp [pyP, PyData.depth, PyData.depthAll]
    rw [e]
    omega
theorem shaped_pl (ps : List (Int × Int)) : SeqAt.shaped (.list (ps.map pyP)) = true := by
  have := depth_pairs ps
  unfold SeqAt.shaped PyData.canLay0 PyData.depth
  rw [lay_pairs, decide_eq_true (by omega)]
  rfl
theorem shaped_pt (ps : List (Int × Int)) : SeqAt.shaped (.tuple (ps.map pyP)) = true := by
  have := depth_pairs ps
  unfold SeqAt.shaped PyData.canLay0 PyData.depth
  rw [lay_pairs, decide_eq_true (by omega)]
  rfl
theorem eqB_pl (ps : List (Int × Int)) : eqB (PL ps) (PL ps) = some true := by
  unfold eqB toPy
  rw [toPy_pairs]
  simp only [Option.map_some]
  rw [shaped_pl]
  exact congrArg some (PySem.SeqAt.eqv_refl (.list (ps.map pyP)) (SeqAt.canLay_of_shaped (shaped_pl ps)))
theorem eqB_pt (ps : List (Int × Int)) : eqB (PT ps) (PT ps) = some true := by
  unfold eqB toPy
  rw [toPy_pairs]
  simp only [Option.map_some]
  rw [shaped_pt]
  exact congrArg some (PySem.SeqAt.eqv_refl (.tuple (ps.map pyP)) (SeqAt.canLay_of_shaped (shaped_pt ps)))
/-- the note at i, counted round the tune -/
def wr (T : List Int) (i : Int) : Int := T.getD (i % (T.length : Int)).toNat 0
theorem ix_wr {T : List Int} {i : Int} (h0 : -(T.length : Int) ≤ i) (h1 : i < T.length) : ixD (IL T) (.int i) = some (.int (wr T i)) := by
  show L2.atI (T.map D.int) i = _
  unfold L2.atI wr
  rw [List.length_map]
  by_cases h : 0 ≤ i
  · have e : ixN T.length i = some i.toNat := by unfold ixN; rw [if_pos h, if_pos h1]
    rw [e, Int.emod_eq_of_lt h h1]
    show (T.map D.int)[i.toNat]? = _
    rw [List.getElem?_map, List.getD_eq_getElem?_getD, List.getElem?_eq_getElem (show i.toNat < T.length by omega)]
    rfl
  · have e : ixN T.length i = some (i + T.length).toNat := by unfold ixN; rw [if_neg h, if_pos h0]
    have em : i % (T.length : Int) = i + T.length := by
      rw [← Int.add_emod_right, Int.emod_eq_of_lt (by omega) (by omega)]
    rw [e, em]
    show (T.map D.int)[(i + T.length).toNat]? = _
    rw [List.getElem?_map, List.getD_eq_getElem?_getD, List.getElem?_eq_getElem (show (i + T.length).toNat < T.length by omega)]
    rfl
def rp (T : List Int) (j : Int) : List (Int × Int) := (List.range (T.length + 1)).map fun k : Nat => (wr T (k : Int), wr T ((k : Int) - j))
theorem wr_per (T : List Int) (i : Int) : wr T (i + T.length) = wr T i := by
  unfold wr
  rw [Int.add_emod_right]
theorem rp_places (T : List Int) (j : Int) : rp T j = (((List.range T.length).map fun k : Nat => (k : Int)) ++ [0]).map fun p => (wr T p, wr T (p - j)) := by
  unfold rp
  rw [List.range_succ, List.map_append, List.map_append, List.map_map]
  have e1 := wr_per T 0
  have e2 := wr_per T (0 - j)
  rw [Int.zero_add] at e1
  rw [show (0 : Int) - j + T.length = (T.length : Int) - j by omega] at e2
  simp only [List.map_cons, List.map_nil, e1, e2]
  rfl
/-- pairs made by a comprehension over ints -/
theorem lc_pairs {v : Nat} {fe : M D} {g : Int → Int × Int} {items : M (List D)} {δ : De} {xs : List Int} (hi : items δ = some (.ok (xs.map D.int) δ)) (hl : xs.length < 1000000) (hv : ownAt δ v = none)
    (h : ∀ n ∈ xs, fe (δ.set v (.val (.int n))) = some (.ok (PD (g n)) (δ.set v (.val (.int n))))) : lcM [v] (bName v) (pureM true) fe items δ = some (.ok (PL (xs.map g)) δ) := by
  rw [lcM_map (g := fun d => match d with | .int n => PD (g n) | d => d) hi (by rw [List.length_map]; exact hl) (by unfold noOwn; simp [hv]) fun d hd => ?_]
  · rw [List.map_map, show PL (xs.map g) = D.lst ((xs.map g).map PD) from rfl, List.map_map]; rfl
  · obtain ⟨n, hn, rfl⟩ := List.mem_map.mp hd
    obtain ⟨δ1, e1, rfl, e2, e3⟩ := bind1 (v := v) (d := .int n) (δ := δ)
    exact ⟨_, e1, e2, e3, h n hn⟩
theorem rangeL_ints (n : Nat) : rangeL 0 n = ((List.range n).map fun k : Nat => (k : Int)).map D.int := by
  unfold rangeL
  rw [List.map_map]
  congr 1
  funext k
  simp only [Function.comp, Int.zero_add]
theorem e_round (T : List Int) (j : Int) (hl : T.length < 1000) (h0 : 0 < j) (h1 : j < T.length) : F_round_may [IL T, .int j] = some (.ret (.bl (ms (rp T j)))) := by
  show outRes (b_round_may [.val (IL T), .val (.int j), .un, .un]) = _
  unfold b_round_may
  have len0 : ∀ s2 s3 : Sl, callB lenD (consM (varM 0) (pureM [])) [.val (IL T), .val (.int j), s2, s3] = some (.ok (.int (T.length : Int)) [.val (IL T), .val (.int j), s2, s3]) := fun s2 s3 => cb_of (one_of (var_of rfl)) (by
    show some (D.int ((T.map D.int).length : Int)) = _
    rw [List.length_map])
  have t1 : tst (chainM ltD ltD (pureM (.int 0)) (varM 1) (callB lenD (consM (varM 0) (pureM [])))) [.val (IL T), .val (.int j), .un, .un] = some (.ok true [.val (IL T), .val (.int j), .un, .un]) :=
    chain_ok (x := .int 0) rfl (var_of rfl) (by show some (D.bl (decide (0 < j))) = _; rw [decide_eq_true h0]) (len0 _ _) (by show some (D.bl (decide (j < (T.length : Int)))) = _; rw [decide_eq_true h1])
  rw [rt_seq (if_no (not_no t1)) rfl]
  have t2 : (thenS (bin2 addD (lrg1 (callB lenD (consM (varM 0) (pureM [])))) (lstM (consM (pureM (.int 0)) (pureM [])))) fun d δ => some (Out.nx (δ.set 2 (.val d)))) [.val (IL T), .val (.int j), .un, .un] = some (.nx [.val (IL T), .val (.int j), .val (IL (((List.range T.length).map fun k : Nat => (k : Int)) ++ [0])), .un]) := by
    have r1 : lrg1 (callB lenD (consM (varM 0) (pureM []))) [.val (IL T), .val (.int j), .un, .un] = some (.ok (IL ((List.range T.length).map fun k : Nat => (k : Int))) [.val (IL T), .val (.int j), .un, .un]) := by
      unfold lrg1
      rw [bindM_ok (len0 _ _)]
      show liftO (rgD 0 (T.length : Int)) _ = _
      unfold rgD
      rw [if_pos ⟨by decide, by decide, by omega, by omega, by omega⟩]
      unfold rgL
      rw [show ((T.length : Int) - 0).toNat = T.length by omega, rangeL_ints]
      rfl
    rw [thenS_ok (bin2_of r1 (y := .lst [.int 0]) rfl (d := IL (((List.range T.length).map fun k : Nat => (k : Int)) ++ [0])) (by
      show (int2 _ _ _).or ((strAdd _ _).or (lstAdd _ _)) = _
      show (none : Option D).or ((none : Option D).or (if _ then some (D.lst (_ ++ [D.int 0])) else none)) = _
      rw [if_pos (by simp; omega)]
      simp))]
    rfl
  rw [rt_seq t2 rfl]
  have t3 : lcM [3] (bName 3) (pureM true) (tupM (consM (bin2 ixD (varM 0) (varM 3)) (consM (bin2 ixD (varM 0) (bin2 subD (varM 3) (varM 1))) (pureM [])))) (seqM (varM 2)) [.val (IL T), .val (.int j), .val (IL (((List.range T.length).map fun k : Nat => (k : Int)) ++ [0])), .un] =
      some (.ok (PL (rp T j)) [.val (IL T), .val (.int j), .val (IL (((List.range T.length).map fun k : Nat => (k : Int)) ++ [0])), .un]) := by
    rw [rp_places]
    refine lc_pairs (g := fun p => (wr T p, wr T (p - j))) ?_ (by simp; omega) rfl fun n hn => ?_
    · unfold seqM
      rw [bindM_ok (var_of rfl)]
      rfl
    · have hr : 0 ≤ n ∧ n < T.length := by
        rcases List.mem_append.mp hn with h | h
        · obtain ⟨k, hk, rfl⟩ := List.mem_map.mp h
          have := List.mem_range.mp hk
          omega
        · simp only [List.mem_singleton] at h
          subst h
          omega
      exact tup_of (cons_of (bin2_of (var_of rfl) (var_of rfl) (ix_wr (by omega) (by omega))) (one_of (bin2_of (var_of rfl) (bin2_of (var_of rfl) (var_of rfl) rfl) (ix_wr (by omega) (by omega))))) (by simp)
  rw [thenS_ok (call_of (one_of t3) (e_mayL _))]
  rfl

theorem lcO_map {vs : List Nat} {bd : D → De → Option De} {inn : M (List D)} {g : D → List D} {δ : De} (hno : noOwn δ vs = true) : ∀ (ds : List D), (∀ d ∈ ds, ∃ δ1, bd d (wipeD δ vs) = some δ1 ∧ δ1.length = δ.length ∧ (∀ j, j ∉ vs → δ1[j]? = δ[j]?) ∧ inn δ1 = some (.ok (g d) δ1)) →
    lcO vs bd (pureM true) inn ds δ = some (.ok (ds.flatMap g) δ)
  | [], _ => rfl
  | d :: r, h => by
    obtain ⟨δ1, h1, h2, h3, h4⟩ := h d (by simp)
    have ih := lcO_map hno r fun x hx => h x (by simp [hx])
    rw [lcO, if_pos hno, h1]
    show (match inn δ1 with
      | some (.ok ys δ3) => match lcO vs bd (pureM true) inn r (restD δ δ3 vs) with
        | some (.ok zs δ4) => some (R.ok (ys ++ zs) δ4)
        | _ => none
      | _ => none) = _
    rw [h4]
    dsimp only
    rw [restD_id h2 h3, ih]
    rfl
theorem len_flat {α β γ : Type} (p : α → β → Bool) (f : α → β → γ) (ss : List β) : ∀ ds : List α, (ds.flatMap fun d => (ss.filter (p d)).map (f d)).length ≤ ds.length * ss.length
  | [] => by simp
  | d :: r => by
    have ih := len_flat p f ss r
    rw [List.flatMap_cons, List.length_append, List.length_map, List.length_cons, Nat.add_mul, Nat.one_mul]
    have := List.length_filter_le (p d) ss
    omega
def fw (T : List Int) (d s : Int) : Bool := ms ((T.drop d.toNat).zip (T.map (· + s)))
def fm (T : List Int) (d a : Int) : Bool := ms ((T.drop d.toNat).zip (T.map (a - ·)))
def flat (p : Int → Int → Bool) (ds ss : List Int) : List (Int × Int) := ds.flatMap fun d => (ss.filter (p d)).map fun s => (d, s)
theorem lc2_of {fn : DF} {p : Int → Int → Bool} {T ds ss : List Int} (hfn : ∀ d ∈ ds, ∀ s ∈ ss, fn [IL T, .int d, .int s] = some (.ret (.bl (p d s)))) (hl : ds.length * ss.length < 1000000) :
    lcM2 [3, 4] (bName 3) (pureM true) (seqM (varM 2)) [4] (bName 4) (tst (callM fn (consM (varM 0) (consM (varM 3) (consM (varM 4) (pureM [])))))) (tupM (consM (varM 3) (consM (varM 4) (pureM [])))) (seqM (varM 1)) [.val (IL T), .val (IL ds), .val (IL ss), .un, .un] =
      some (.ok (PL (flat p ds ss)) [.val (IL T), .val (IL ds), .val (IL ss), .un, .un]) := by
  have hi : seqM (varM 1) [.val (IL T), .val (IL ds), .val (IL ss), .un, .un] = some (.ok (ds.map D.int) [.val (IL T), .val (IL ds), .val (IL ss), .un, .un]) := rfl
  unfold lcM2
  rw [bindM_ok hi, bindM_ok (lcO_map (g := fun d => match d with | .int d => ((ss.filter (p d)).map fun s => PD (d, s)) | _ => []) rfl (ds.map D.int) fun d hd => ?_)]
  · have e : ((ds.map D.int).flatMap fun d => match d with | .int d => ((ss.filter (p d)).map fun s => PD (d, s)) | _ => []) = (flat p ds ss).map PD := by
      unfold flat
      rw [List.flatMap_map, List.map_flatMap]
      congr 1
      funext d
      rw [List.map_map]
      rfl
    rw [e, if_pos (by
      rw [List.length_map]
      exact Nat.lt_of_le_of_lt (len_flat p (fun d s => (d, s)) ss ds) hl)]
    rfl
  · obtain ⟨d, hd', rfl⟩ := List.mem_map.mp hd
    refine ⟨[.val (IL T), .val (IL ds), .val (IL ss), .val (.int d), .un], rfl, rfl, fun j hj => ?_, ?_⟩
    · match j, hj with
      | 0, _ => rfl
      | 1, _ => rfl
      | 2, _ => rfl
      | 3, h => exact absurd (by simp) h
      | 4, h => exact absurd (by simp) h
      | n + 5, _ => rfl
    · have h2 : seqM (varM 2) [.val (IL T), .val (IL ds), .val (IL ss), .val (.int d), .un] = some (.ok (ss.map D.int) [.val (IL T), .val (IL ds), .val (IL ss), .val (.int d), .un]) := rfl
      rw [bindM_ok h2, lcD_filter (p := fun x => match x with | .int s => p d s | _ => false) (g := fun x => .tup [.int d, x]) rfl (ss.map D.int) fun x hx => ?_]
      · rw [List.filter_map, List.map_map]
        rfl
      · obtain ⟨s, hs, rfl⟩ := List.mem_map.mp hx
        refine ⟨[.val (IL T), .val (IL ds), .val (IL ss), .val (.int d), .val (.int s)], rfl, rfl, fun j hj => ?_, tst_of (call_of (cons_of (var_of rfl) (cons_of (var_of rfl) (one_of (var_of rfl)))) (hfn d hd' s hs)), fun _ => rfl⟩
        match j, hj with
        | 0, _ => rfl
        | 1, _ => rfl
        | 2, _ => rfl
        | 3, _ => rfl
        | 4, h => exact absurd (by simp) h
        | n + 5, _ => rfl
theorem e_canons (T ds ss : List Int) (hT : T.length < 1000000) (hd : ∀ d ∈ ds, 0 ≤ d) (hl : ds.length * ss.length < 1000000) : F_all_canons [IL T, IL ds, IL ss] = some (.ret (PT (flat (fw T) ds ss))) := by
  show outRes (b_all_canons [.val (IL T), .val (IL ds), .val (IL ss), .un, .un]) = _
  unfold b_all_canons
  rw [thenS_ok (cb_of (one_of (lc2_of (fn := F_follows_at) (p := fw T) (fun d h s _ => by
    have h0 := hd d h
    have := e_follows T d.toNat s hT
    rw [show ((d.toNat : Nat) : Int) = d by omega] at this
    exact this) hl)) rfl)]
  rfl
theorem e_mirrors (T ds ss : List Int) (hT : T.length < 1000000) (hd : ∀ d ∈ ds, 0 ≤ d) (hl : ds.length * ss.length < 1000000) : F_all_mirrors [IL T, IL ds, IL ss] = some (.ret (PT (flat (fm T) ds ss))) := by
  show outRes (b_all_mirrors [.val (IL T), .val (IL ds), .val (IL ss), .un, .un]) = _
  unfold b_all_mirrors
  rw [thenS_ok (cb_of (one_of (lc2_of (fn := F_mirror_follows) (p := fm T) (fun d h s _ => by
    have h0 := hd d h
    have := e_mirf T d.toNat s hT
    rw [show ((d.toNat : Nat) : Int) = d by omega] at this
    exact this) hl)) rfl)]
  rfl
/-- the law's pairs: k from d on, the note there, the note d before -/
theorem drop_pairs (T : List Int) (g : Int → Int) (d : Nat) : ((List.range (T.length - d)).map fun k : Nat => (wr T ((d + k : Nat) : Int), g (wr T ((k : Nat) : Int)))) = (T.drop d).zip (T.map g) := by
  have wn : ∀ {k : Nat} (h : k < T.length), wr T (k : Int) = T[k] := fun {k} h => by
    unfold wr
    rw [Int.emod_eq_of_lt (by omega) (by omega), Int.toNat_natCast, List.getD_eq_getElem?_getD, List.getElem?_eq_getElem h]
    rfl
  apply List.ext_getElem
  · rw [List.length_map, List.length_range, List.length_zip, List.length_drop, List.length_map]; omega
  · intro k h1 h2
    rw [List.length_map, List.length_range] at h1
    rw [List.getElem_map, List.getElem_range, List.getElem_zip, List.getElem_drop, List.getElem_map, wn (by omega), wn (by omega)]

def bod1 : Fo := ((seqS (thenS (lcM [13] (bName 13) (pureM true) (tupM (consM (bin2 ixD (varM 3) (varM 13)) (consM (bin2 addD (bin2 ixD (varM 3) (bin2 subD (varM 13) (varM 4))) (varM 9)) (pureM [])))) (itM rng2 (consM (varM 4) (consM (callB lenD (consM (varM 3) (pureM []))) (pureM []))))) fun d δ => some (.nx (δ.set 12 (.val d)))) (seqS (thenS (orT (tst (bin2 neD (callM F_overlap (consM (varM 3) (consM (lcM [16] (bName 16) (pureM true) (bin2 addD (varM 16) (varM 9)) (seqM (varM 3))) (consM (varM 4) (pureM []))))) (callB tupleD (consM (varM 12) (pureM []))))) (tst (bin2 neD (callM F_may_sound (consM (varM 12) (pureM []))) (callM F__law_sounds (consM (varM 12) (pureM [])))))) fun k => if k then (thenS (pureM (.bl false)) fun d _ => some (.rt d)) else nxS) (thenS (bin2 addD (varM 7) (iteM (tst (callM F__law_sounds (consM (varM 12) (pureM [])))) (lstM (consM (tupM (consM (varM 4) (consM (varM 9) (pureM [])))) (pureM []))) (lstM (pureM [])))) fun d δ => some (.nx (δ.set 7 (.val d)))))))
def bod2 : Fo := ((seqS (thenS (lcM [13] (bName 13) (pureM true) (tupM (consM (bin2 ixD (varM 3) (varM 13)) (consM (bin2 subD (varM 10) (bin2 ixD (varM 3) (bin2 subD (varM 13) (varM 4)))) (pureM [])))) (itM rng2 (consM (varM 4) (consM (callB lenD (consM (varM 3) (pureM []))) (pureM []))))) fun d δ => some (.nx (δ.set 12 (.val d)))) (thenS (bin2 addD (varM 8) (iteM (tst (callM F__law_sounds (consM (varM 12) (pureM [])))) (lstM (consM (tupM (consM (varM 4) (consM (varM 10) (pureM [])))) (pureM []))) (lstM (pureM [])))) fun d δ => some (.nx (δ.set 8 (.val d))))))
def out4 : Fo := ((seqS (thenS (seqM (varM 6)) fun ds => forD (bName 9) bod1 ds) (thenS (itM rng2 (consM (pureM (.int 96)) (consM (pureM (.int 120)) (pureM [])))) fun ds => forD (bName 10) bod2 ds)))
theorem forD_cons_nx {bd : D → De → Option De} {f : Fo} {x : D} {r : List D} {δ δ1 δ2 : De} (h1 : bd x δ = some δ1) (h2 : f δ1 = some (.nx δ2)) : forD bd f (x :: r) δ = forD bd f r δ2 := by
  rw [forD, h1]
  dsimp only
  rw [h2]
theorem forD_fold {bd : D → De → Option De} {f : Fo} {J : List (Int × Int) → De → Prop} {g : D → List (Int × Int)} (hg : ∀ d, (g d).length ≤ 1) : ∀ (ds : List D) (acc : List (Int × Int)) (δ : De), (∀ d ∈ ds, ∀ acc δ, acc.length < 1000 → J acc δ → ∃ δ1 δ2, bd d δ = some δ1 ∧ f δ1 = some (.nx δ2) ∧ J (acc ++ g d) δ2) → acc.length + ds.length < 1000 → J acc δ →
    ∃ δ', forD bd f ds δ = some (.nx δ') ∧ J (acc ++ ds.flatMap g) δ'
  | [], acc, δ, _, _, j => ⟨δ, rfl, by simpa using j⟩
  | d :: r, acc, δ, h, hl, j => by
    have hd := hg d
    rw [List.length_cons] at hl
    obtain ⟨δ1, δ2, h1, h2, j2⟩ := h d (by simp) acc δ (by omega) j
    obtain ⟨δ', h3, j3⟩ := forD_fold hg r (acc ++ g d) δ2 (fun x hx => h x (by simp [hx])) (by rw [List.length_append]; omega) j2
    exact ⟨δ', by rw [forD_cons_nx h1 h2]; exact h3, by rw [List.flatMap_cons, ← List.append_assoc]; exact j3⟩
def DL : List Int := [0, 1, 2, 3]
def SH : List Int := (List.range 25).map fun k : Nat => -12 + (k : Int)
def AB : List Int := (List.range 24).map fun k : Nat => 96 + (k : Int)
def st7 (d : Sl) (T : List Int) (s4 : Sl) (due tn : List (Int × Int)) (s9 s10 s11 s12 : Sl) : De := [.un, d, .un, .val (IL T), s4, .val (IL DL), .val (IL SH), .val (PL due), .val (PL tn), s9, s10, s11, s12, .un, .un, .un, .un]
theorem rng_ints (lo : Int) (n : Nat) : rangeL lo n = ((List.range n).map fun k : Nat => lo + (k : Int)).map D.int := by
  unfold rangeL
  rw [List.map_map]
  rfl
/-- the law's pairs at a delay -/
theorem pairs_of {δ : De} {T : List Int} {d : Nat} {g : Int → Int} {fe2 : M D} (hT : T.length < 1000) (hd : d < 1000) (h3 : δ[3]? = some (.val (IL T))) (h4 : δ[4]? = some (.val (.int (d : Int)))) (h13 : ownAt δ 13 = none) (hlen : δ.length = 17)
    (h2 : ∀ k : Nat, k + d < T.length → fe2 (δ.set 13 (.val (.int ((d : Int) + k)))) = some (.ok (.int (g (wr T (k : Int)))) (δ.set 13 (.val (.int ((d : Int) + k)))))) :
    lcM [13] (bName 13) (pureM true) (tupM (consM (bin2 ixD (varM 3) (varM 13)) (consM fe2 (pureM [])))) (itM rng2 (consM (varM 4) (consM (callB lenD (consM (varM 3) (pureM []))) (pureM [])))) δ = some (.ok (PL ((T.drop d).zip (T.map g))) δ) := by
  have hi : itM rng2 (consM (varM 4) (consM (callB lenD (consM (varM 3) (pureM []))) (pureM []))) δ = some (.ok (((List.range (T.length - d)).map fun k : Nat => (d : Int) + (k : Int)).map D.int) δ) := by
    refine itM_of (cons_of (var_of h4) (one_of (cb_of (one_of (var_of h3)) (d := .int (T.length : Int)) ?_))) ?_
    · show some (D.int ((T.map D.int).length : Int)) = _
      rw [List.length_map]
    · rw [← rng_ints]
      show (if FL.inR (d : Int) ∧ FL.inR (T.length : Int) then some (rangeL (d : Int) ((T.length : Int) - d).toNat) else none) = _
      rw [if_pos ⟨by unfold FL.inR; omega, by unfold FL.inR; omega⟩, show ((T.length : Int) - d).toNat = T.length - d by omega]
  rw [lc_pairs (g := fun i => (wr T i, g (wr T (i - d)))) hi (by rw [List.length_map, List.length_range]; omega) h13 fun n hn => ?_, List.map_map, ← drop_pairs T g d]
  · congr 5
    funext k
    simp only [Function.comp]
    rw [show (d : Int) + (k : Int) - (d : Int) = (k : Int) by omega, show ((d + k : Nat) : Int) = (d : Int) + (k : Int) by omega]
  · obtain ⟨k, hk, rfl⟩ := List.mem_map.mp hn
    have hk := List.mem_range.mp hk
    have e13 : (δ.set 13 (.val (.int ((d : Int) + k))))[13]? = some (.val (.int ((d : Int) + k))) := List.getElem?_set_self (by rw [hlen]; decide)
    have e3 : (δ.set 13 (.val (.int ((d : Int) + k))))[3]? = some (.val (IL T)) := by rw [List.getElem?_set_ne (by decide)]; exact h3
    have := h2 k (by omega)
    rw [show (d : Int) + (k : Int) - (d : Int) = (k : Int) by omega]
    exact tup_of (cons_of (bin2_of (var_of e3) (var_of e13) (ix_wr (by omega) (by omega))) (one_of this)) (by simp)

def ps7 (T : List Int) (d : Nat) (g : Int → Int) : List (Int × Int) := (T.drop d).zip (T.map g)
theorem ps7_len (T : List Int) (d : Nat) (g : Int → Int) (hT : T.length < 1000) : (ps7 T d g).length < 1000 := by
  unfold ps7
  rw [List.length_zip, List.length_map]
  exact Nat.lt_of_le_of_lt (Nat.min_le_right _ _) hT
theorem lstAdd_pl {xs ys : List (Int × Int)} (h : xs.length + ys.length ≤ 1000000) : addD (PL xs) (PL ys) = some (PL (xs ++ ys)) := by
  show (none : Option D).or ((none : Option D).or (if (xs.map PD).length + (ys.map PD).length ≤ 1000000 then some (D.lst (xs.map PD ++ ys.map PD)) else none)) = _
  rw [if_pos (by rw [List.length_map, List.length_map]; exact h), ← List.map_append]
  rfl
theorem ite_of {t : M Bool} {a b : M D} {k : Bool} {x y : D} {δ : De} (h : t δ = some (.ok k δ)) (ha : a δ = some (.ok x δ)) (hb : b δ = some (.ok y δ)) : iteM t a b δ = some (.ok (if k then x else y) δ) := by
  unfold iteM
  rw [bindM_ok h]
  cases k
  · exact hb
  · exact ha
theorem bod1_of {T : List Int} (hT : T.length < 1000) {d : Nat} (hd : d < 1000) (s : Int) (D0 : Sl) (hD : ∃ x y z : Int, D0 = .own [.int x, .int y, .int z]) {due tn : List (Int × Int)} (hdue : due.length < 1000) (s10 s11 s12 : Sl) :
    bod1 (st7 D0 T (.val (.int (d : Int))) due tn (.val (.int s)) s10 s11 s12) = some (.nx (st7 D0 T (.val (.int (d : Int))) (due ++ if ms (ps7 T d (· + s)) then [((d : Int), s)] else []) tn (.val (.int s)) s10 s11 (.val (PL (ps7 T d (· + s)))))) := by
  obtain ⟨x, y, z, rfl⟩ := hD
  have a1 := pairs_of (δ := st7 (.own [.int x, .int y, .int z]) T (.val (.int (d : Int))) due tn (.val (.int s)) s10 s11 s12) (T := T) (d := d) (g := (· + s)) (fe2 := bin2 addD (bin2 ixD (varM 3) (bin2 subD (varM 13) (varM 4))) (varM 9)) hT hd rfl rfl rfl rfl fun k hk => by
    refine bin2_of (bin2_of (var_of rfl) (bin2_of (d := .int (k : Int)) (var_of rfl) (var_of rfl) ?_) (ix_wr (by omega) (by omega))) (var_of rfl) rfl
    show some (D.int ((d : Int) + k - d)) = _
    rw [show (d : Int) + k - d = (k : Int) by omega]
  have b1 : (thenS (lcM [13] (bName 13) (pureM true) (tupM (consM (bin2 ixD (varM 3) (varM 13)) (consM (bin2 addD (bin2 ixD (varM 3) (bin2 subD (varM 13) (varM 4))) (varM 9)) (pureM [])))) (itM rng2 (consM (varM 4) (consM (callB lenD (consM (varM 3) (pureM []))) (pureM []))))) fun d δ => some (Out.nx (δ.set 12 (.val d)))) (st7 (.own [.int x, .int y, .int z]) T (.val (.int (d : Int))) due tn (.val (.int s)) s10 s11 s12) =
      some (.nx (st7 (.own [.int x, .int y, .int z]) T (.val (.int (d : Int))) due tn (.val (.int s)) s10 s11 (.val (PL (ps7 T d (· + s)))))) := by rw [thenS_ok a1]; rfl
  unfold bod1
  rw [rt_seq b1 rfl]
  have hl := ps7_len T d (· + s) hT
  have v12 : varM 12 (st7 (.own [.int x, .int y, .int z]) T (.val (.int (d : Int))) due tn (.val (.int s)) s10 s11 (.val (PL (ps7 T d (· + s))))) = some (.ok (PL (ps7 T d (· + s))) (st7 (.own [.int x, .int y, .int z]) T (.val (.int (d : Int))) due tn (.val (.int s)) s10 s11 (.val (PL (ps7 T d (· + s)))))) := rfl
  have l16 : lcM [16] (bName 16) (pureM true) (bin2 addD (varM 16) (varM 9)) (seqM (varM 3)) (st7 (.own [.int x, .int y, .int z]) T (.val (.int (d : Int))) due tn (.val (.int s)) s10 s11 (.val (PL (ps7 T d (· + s))))) = some (.ok (IL (T.map (· + s))) (st7 (.own [.int x, .int y, .int z]) T (.val (.int (d : Int))) due tn (.val (.int s)) s10 s11 (.val (PL (ps7 T d (· + s)))))) :=
    lc_ints (g := (· + s)) (X := IL T) rfl rfl (by omega) rfl fun n _ => bin2_of (var_of rfl) (var_of rfl) rfl
  have ov := call_of (cons_of (var_of (i := 3) (d := IL T) rfl) (cons_of l16 (one_of (var_of (i := 4) (d := .int (d : Int)) rfl)))) (e_over T (T.map (· + s)) d rfl)
  have tp : callB tupleD (consM (varM 12) (pureM [])) (st7 (.own [.int x, .int y, .int z]) T (.val (.int (d : Int))) due tn (.val (.int s)) s10 s11 (.val (PL (ps7 T d (· + s))))) = some (.ok (PT (ps7 T d (· + s))) (st7 (.own [.int x, .int y, .int z]) T (.val (.int (d : Int))) due tn (.val (.int s)) s10 s11 (.val (PL (ps7 T d (· + s)))))) := cb_of (one_of v12) rfl
  have ls := call_of (one_of v12) (e_ls (ps7 T d (· + s)) (by omega))
  have n1 := ne_no ov tp (eqB_pt (ps7 T d (· + s)))
  have n2 := ne_no (call_of (one_of v12) (e_mayL (ps7 T d (· + s)))) ls (by rw [eqB_bl, beq_self_eq_true])
  rw [rt_seq (if_no (or_no n1 n2)) rfl]
  have it := ite_of (a := lstM (consM (tupM (consM (varM 4) (consM (varM 9) (pureM [])))) (pureM []))) (b := lstM (pureM [])) (x := PL [((d : Int), s)]) (y := PL []) (tst_of ls) rfl rfl
  have e : (if ms (ps7 T d (· + s)) = true then PL [((d : Int), s)] else PL []) = PL (if ms (ps7 T d (· + s)) then [((d : Int), s)] else []) := by cases ms (ps7 T d (· + s)) <;> rfl
  rw [e] at it
  rw [thenS_ok (bin2_of (var_of (i := 7) (d := PL due) rfl) it (lstAdd_pl (by split <;> simp <;> omega)))]
  rfl
theorem bod2_of {T : List Int} (hT : T.length < 1000) {d : Nat} (hd : d < 1000) (s : Int) (D0 : Sl) (hD : ∃ x y z : Int, D0 = .own [.int x, .int y, .int z]) {due tn : List (Int × Int)} (htn : tn.length < 1000) (s9 s11 s12 : Sl) :
    bod2 (st7 D0 T (.val (.int (d : Int))) due tn s9 (.val (.int s)) s11 s12) = some (.nx (st7 D0 T (.val (.int (d : Int))) due (tn ++ if ms (ps7 T d (s - ·)) then [((d : Int), s)] else []) s9 (.val (.int s)) s11 (.val (PL (ps7 T d (s - ·)))))) := by
  obtain ⟨x, y, z, rfl⟩ := hD
  have a1 := pairs_of (δ := st7 (.own [.int x, .int y, .int z]) T (.val (.int (d : Int))) due tn s9 (.val (.int s)) s11 s12) (T := T) (d := d) (g := (s - ·)) (fe2 := bin2 subD (varM 10) (bin2 ixD (varM 3) (bin2 subD (varM 13) (varM 4)))) hT hd rfl rfl rfl rfl fun k hk => by
    refine bin2_of (var_of rfl) (bin2_of (var_of rfl) (bin2_of (d := .int (k : Int)) (var_of rfl) (var_of rfl) ?_) (ix_wr (by omega) (by omega))) rfl
    show some (D.int ((d : Int) + k - d)) = _
    rw [show (d : Int) + k - d = (k : Int) by omega]
  have b1 : (thenS (lcM [13] (bName 13) (pureM true) (tupM (consM (bin2 ixD (varM 3) (varM 13)) (consM (bin2 subD (varM 10) (bin2 ixD (varM 3) (bin2 subD (varM 13) (varM 4)))) (pureM [])))) (itM rng2 (consM (varM 4) (consM (callB lenD (consM (varM 3) (pureM []))) (pureM []))))) fun d δ => some (Out.nx (δ.set 12 (.val d)))) (st7 (.own [.int x, .int y, .int z]) T (.val (.int (d : Int))) due tn s9 (.val (.int s)) s11 s12) =
      some (.nx (st7 (.own [.int x, .int y, .int z]) T (.val (.int (d : Int))) due tn s9 (.val (.int s)) s11 (.val (PL (ps7 T d (s - ·)))))) := by rw [thenS_ok a1]; rfl
  unfold bod2
  rw [rt_seq b1 rfl]
  have hl := ps7_len T d (s - ·) hT
  have v12 : varM 12 (st7 (.own [.int x, .int y, .int z]) T (.val (.int (d : Int))) due tn s9 (.val (.int s)) s11 (.val (PL (ps7 T d (s - ·))))) = some (.ok (PL (ps7 T d (s - ·))) (st7 (.own [.int x, .int y, .int z]) T (.val (.int (d : Int))) due tn s9 (.val (.int s)) s11 (.val (PL (ps7 T d (s - ·)))))) := rfl
  have ls := call_of (one_of v12) (e_ls (ps7 T d (s - ·)) (by omega))
  have it := ite_of (a := lstM (consM (tupM (consM (varM 4) (consM (varM 10) (pureM [])))) (pureM []))) (b := lstM (pureM [])) (x := PL [((d : Int), s)]) (y := PL []) (tst_of ls) rfl rfl
  have e : (if ms (ps7 T d (s - ·)) = true then PL [((d : Int), s)] else PL []) = PL (if ms (ps7 T d (s - ·)) then [((d : Int), s)] else []) := by cases ms (ps7 T d (s - ·)) <;> rfl
  rw [e] at it
  rw [thenS_ok (bin2_of (var_of (i := 8) (d := PL tn) rfl) it (lstAdd_pl (by split <;> simp <;> omega)))]
  rfl

def gA (T : List Int) (d : Nat) : D → List (Int × Int) | .int s => if ms (ps7 T d (· + s)) then [((d : Int), s)] else [] | _ => []
def gB (T : List Int) (d : Nat) : D → List (Int × Int) | .int s => if ms (ps7 T d (s - ·)) then [((d : Int), s)] else [] | _ => []
theorem gA_le (T : List Int) (d : Nat) (x : D) : (gA T d x).length ≤ 1 := by
  unfold gA
  split
  · split <;> simp
  · simp
theorem gB_le (T : List Int) (d : Nat) (x : D) : (gB T d x).length ≤ 1 := by
  unfold gB
  split
  · split <;> simp
  · simp
theorem flat_if (p : Int → Bool) (f : Int → Int × Int) : ∀ xs : List Int, (xs.flatMap fun s => if p s then [f s] else []) = (xs.filter p).map f
  | [] => rfl
  | x :: xs => by
    rw [List.flatMap_cons, flat_if p f xs]
    cases h : p x
    · rw [List.filter_cons_of_neg (by simp [h])]; rfl
    · rw [List.filter_cons_of_pos h]; rfl
def rA (T : List Int) (d : Nat) : List (Int × Int) := (SH.filter (fw T d)).map fun s => ((d : Int), s)
def rB (T : List Int) (d : Nat) : List (Int × Int) := (AB.filter (fm T d)).map fun s => ((d : Int), s)
theorem gA_all (T : List Int) (d : Nat) : (SH.map D.int).flatMap (gA T d) = rA T d := by
  unfold rA
  rw [List.flatMap_map, ← flat_if]
  rfl
theorem gB_all (T : List Int) (d : Nat) : (AB.map D.int).flatMap (gB T d) = rB T d := by
  unfold rB
  rw [List.flatMap_map, ← flat_if]
  rfl
theorem rA_len (T : List Int) (d : Nat) : (rA T d).length ≤ 25 := by
  unfold rA
  rw [List.length_map]
  exact Nat.le_trans (List.length_filter_le _ _) (by decide)
theorem rB_len (T : List Int) (d : Nat) : (rB T d).length ≤ 24 := by
  unfold rB
  rw [List.length_map]
  exact Nat.le_trans (List.length_filter_le _ _) (by decide)
theorem out4_of {T : List Int} (hT : T.length < 1000) {d : Nat} (hd : d < 1000) (D0 : Sl) (hD : ∃ x y z : Int, D0 = .own [.int x, .int y, .int z]) {due tn : List (Int × Int)} (hdue : due.length < 200) (htn : tn.length < 200) (s9 s10 s11 s12 : Sl) :
    ∃ s9' s10' s12', out4 (st7 D0 T (.val (.int (d : Int))) due tn s9 s10 s11 s12) = some (.nx (st7 D0 T (.val (.int (d : Int))) (due ++ rA T d) (tn ++ rB T d) s9' s10' s11 s12')) := by
  obtain ⟨δ1, h1, s9a, s12a, rfl⟩ := forD_fold (bd := bName 9) (f := bod1) (J := fun acc δ => ∃ s9 s12, δ = st7 D0 T (.val (.int (d : Int))) acc tn s9 s10 s11 s12) (g := gA T d) (gA_le T d) (SH.map D.int) due (st7 D0 T (.val (.int (d : Int))) due tn s9 s10 s11 s12)
    (fun x hx acc δ hacc ⟨s9, s12, e⟩ => by
      obtain ⟨s, hs, rfl⟩ := List.mem_map.mp hx
      subst e
      exact ⟨_, _, rfl, bod1_of hT hd s D0 hD hacc s10 s11 s12, _, _, rfl⟩) (by rw [List.length_map]; exact Nat.lt_of_lt_of_le (Nat.add_lt_add_right hdue _) (by decide)) ⟨_, _, rfl⟩
  obtain ⟨δ2, h2, s10a, s12b, rfl⟩ := forD_fold (bd := bName 10) (f := bod2) (J := fun acc δ => ∃ s10 s12, δ = st7 D0 T (.val (.int (d : Int))) (due ++ (SH.map D.int).flatMap (gA T d)) acc s9a s10 s11 s12) (g := gB T d) (gB_le T d) (AB.map D.int) tn (st7 D0 T (.val (.int (d : Int))) (due ++ (SH.map D.int).flatMap (gA T d)) tn s9a s10 s11 s12a)
    (fun x hx acc δ hacc ⟨s10, s12, e⟩ => by
      obtain ⟨s, hs, rfl⟩ := List.mem_map.mp hx
      subst e
      exact ⟨_, _, rfl, bod2_of hT hd s D0 hD hacc s9a s11 s12, _, _, rfl⟩) (by rw [List.length_map]; exact Nat.lt_of_lt_of_le (Nat.add_lt_add_right htn _) (by decide)) ⟨_, _, rfl⟩
  refine ⟨s9a, s10a, s12b, ?_⟩
  rw [gA_all, gB_all] at h2
  rw [gA_all] at h1
  unfold out4
  have i1 : seqM (varM 6) (st7 D0 T (.val (.int (d : Int))) due tn s9 s10 s11 s12) = some (.ok (SH.map D.int) (st7 D0 T (.val (.int (d : Int))) due tn s9 s10 s11 s12)) := rfl
  have i2 : ∀ δ : De, itM rng2 (consM (pureM (.int 96)) (consM (pureM (.int 120)) (pureM []))) δ = some (.ok (AB.map D.int) δ) := fun δ => rfl
  rw [rt_seq (by rw [thenS_ok i1]; exact h1) rfl, thenS_ok (i2 _)]
  exact h2
theorem c4_of {T : List Int} (hT : T.length < 1000) (D0 : Sl) (hD : ∃ x y z : Int, D0 = .own [.int x, .int y, .int z]) (s4 s9 s10 s11 s12 : Sl) :
    ∃ s4' s9' s10' s12', c_4 (st7 D0 T s4 [] [] s9 s10 s11 s12) = some (.nx (st7 D0 T s4' (flat (fw T) DL SH) (flat (fm T) DL AB) s9' s10' s11 s12')) := by
  have l := rA_len T
  have l' := rB_len T
  obtain ⟨a9, a10, a12, h0⟩ := out4_of hT (d := 0) (by decide) D0 hD (due := []) (tn := []) (by decide) (by decide) s9 s10 s11 s12
  obtain ⟨b9, b10, b12, h1⟩ := out4_of hT (d := 1) (by decide) D0 hD (due := [] ++ rA T 0) (tn := [] ++ rB T 0) (by have := l 0; simp; omega) (by have := l' 0; simp; omega) a9 a10 s11 a12
  obtain ⟨c9, c10, c12, h2⟩ := out4_of hT (d := 2) (by decide) D0 hD (due := [] ++ rA T 0 ++ rA T 1) (tn := [] ++ rB T 0 ++ rB T 1) (by have := l 0; have := l 1; simp; omega) (by have := l' 0; have := l' 1; simp; omega) b9 b10 s11 b12
  obtain ⟨d9, d10, d12, h3⟩ := out4_of hT (d := 3) (by decide) D0 hD (due := [] ++ rA T 0 ++ rA T 1 ++ rA T 2) (tn := [] ++ rB T 0 ++ rB T 1 ++ rB T 2) (by have := l 0; have := l 1; have := l 2; simp; omega) (by have := l' 0; have := l' 1; have := l' 2; simp; omega) c9 c10 s11 c12
  refine ⟨.val (.int 3), d9, d10, d12, ?_⟩
  show thenS (seqM (varM 5)) (fun ds => forD (bName 4) out4 ds) _ = _
  have i1 : seqM (varM 5) (st7 D0 T s4 [] [] s9 s10 s11 s12) = some (.ok [.int 0, .int 1, .int 2, .int 3] (st7 D0 T s4 [] [] s9 s10 s11 s12)) := rfl
  have eA : [] ++ rA T 0 ++ rA T 1 ++ rA T 2 ++ rA T 3 = flat (fw T) DL SH := by simp [flat, rA, DL]
  have eB : [] ++ rB T 0 ++ rB T 1 ++ rB T 2 ++ rB T 3 = flat (fm T) DL AB := by simp [flat, rB, DL]
  rw [eA, eB] at h3
  rw [thenS_ok i1, forD_cons_nx (δ1 := st7 D0 T (.val (.int 0)) [] [] s9 s10 s11 s12) rfl h0, forD_cons_nx (δ1 := st7 D0 T (.val (.int 1)) ([] ++ rA T 0) ([] ++ rB T 0) a9 a10 s11 a12) rfl h1,
    forD_cons_nx (δ1 := st7 D0 T (.val (.int 2)) ([] ++ rA T 0 ++ rA T 1) ([] ++ rB T 0 ++ rB T 1) b9 b10 s11 b12) rfl h2, forD_cons_nx (δ1 := st7 D0 T (.val (.int 3)) ([] ++ rA T 0 ++ rA T 1 ++ rA T 2) ([] ++ rB T 0 ++ rB T 1 ++ rB T 2) c9 c10 s11 c12) rfl h3]
  rfl
theorem c5_of {T : List Int} (hT : T.length < 1000) (D0 s4 : Sl) (tn : List (Int × Int)) (s9 s10 s11 s12 : Sl) : c_5 (st7 D0 T s4 (flat (fw T) DL SH) tn s9 s10 s11 s12) = some (.nx (st7 D0 T s4 (flat (fw T) DL SH) tn s9 s10 s11 s12)) := by
  have h := call_of (f := F_all_canons) (m := consM (varM 3) (consM (varM 5) (consM (varM 6) (pureM [])))) (δ := st7 D0 T s4 (flat (fw T) DL SH) tn s9 s10 s11 s12) (cons_of (var_of rfl) (cons_of (var_of rfl) (one_of (var_of rfl)))) (e_canons T DL SH (by omega) (by decide) (by decide))
  exact if_no (ne_no (cb_of (one_of h) (d := PL (flat (fw T) DL SH)) rfl) (var_of rfl) (eqB_pl _))
theorem c6_of {T : List Int} (hT : T.length < 1000) (D0 s4 : Sl) (due : List (Int × Int)) (s9 s10 s11 s12 : Sl) : c_6 (st7 D0 T s4 due (flat (fm T) DL AB) s9 s10 s11 s12) = some (.nx (st7 D0 T s4 due (flat (fm T) DL AB) s9 s10 s11 s12)) := by
  have r : lrg2 (pureM (.int 96)) (pureM (.int 120)) (st7 D0 T s4 due (flat (fm T) DL AB) s9 s10 s11 s12) = some (.ok (IL AB) (st7 D0 T s4 due (flat (fm T) DL AB) s9 s10 s11 s12)) := rfl
  have h := call_of (f := F_all_mirrors) (m := consM (varM 3) (consM (varM 5) (consM (lrg2 (pureM (.int 96)) (pureM (.int 120))) (pureM [])))) (δ := st7 D0 T s4 due (flat (fm T) DL AB) s9 s10 s11 s12) (cons_of (var_of rfl) (cons_of (var_of rfl) (one_of r))) (e_mirrors T DL AB (by omega) (by decide) (by decide))
  exact if_no (ne_no (cb_of (one_of h) (d := PL (flat (fm T) DL AB)) rfl) (var_of rfl) (eqB_pl _))

theorem in_pairs (p : Int × Int) (ps : List (Int × Int)) : inX false (PD p) (PL ps) = some (.bl (ps.any fun q => q == p)) := by
  have h0 : inD false (PD p) (PL ps) = none := rfl
  have h1 : inE (PD p) (PL ps) = some (ps.any fun q => q == p) := by
    show (match toPy (PD p), toPyL (ps.map PD) with
      | some p, some qs => if SeqAt.shaped p && SeqAt.shaped (.list qs) then some (qs.any fun z => PyData.eqv z p) else none
      | _, _ => none) = _
    rw [toPy_pairs, show toPy (PD p) = some (pyP p) from rfl]
    dsimp only
    rw [shaped_pl, show SeqAt.shaped (pyP p) = true from rfl, Bool.and_self, if_pos rfl, List.any_map]
    congr 2
    funext q
    obtain ⟨a, b⟩ := p
    obtain ⟨c, d⟩ := q
    show (c == a && (d == b && true)) = ((c, d) == (a, b))
    rw [Bool.eq_iff_iff]
    simp
  unfold inX
  rw [h0, h1]
  rfl
theorem flat_in {T : List Int} {d : Nat} {s : Int} (hd : d < 4) (h0 : -12 ≤ s) (h1 : s < 13) : ((flat (fw T) DL SH).any fun q => q == ((d : Int), s)) = fw T d s := by
  rw [Bool.eq_iff_iff, List.any_eq_true]
  have hs : s ∈ SH := List.mem_map.mpr ⟨(s + 12).toNat, List.mem_range.mpr (by omega), by omega⟩
  have hdd : (d : Int) ∈ DL := by
    unfold DL
    simp only [List.mem_cons, List.not_mem_nil, or_false]
    omega
  constructor
  · rintro ⟨q, hq, e⟩
    have e := beq_iff_eq.mp e
    subst e
    obtain ⟨d', _, hq⟩ := List.mem_flatMap.mp hq
    obtain ⟨s', hs', e⟩ := List.mem_map.mp hq
    cases e
    exact (List.mem_filter.mp hs').2
  · intro h
    exact ⟨((d : Int), s), List.mem_flatMap.mpr ⟨(d : Int), hdd, List.mem_map.mpr ⟨s, List.mem_filter.mpr ⟨hs, h⟩, rfl⟩⟩, beq_self_eq_true _⟩
theorem lc_intsX {v : Nat} {fe : M D} {g : Int → Int} {items : M (List D)} {δ : De} {xs : List Int} (hi : items δ = some (.ok (xs.map D.int) δ)) (hl : xs.length < 1000000) (hv : ownAt δ v = none)
    (h : ∀ n ∈ xs, fe (δ.set v (.val (.int n))) = some (.ok (.int (g n)) (δ.set v (.val (.int n))))) : lcM [v] (bName v) (pureM true) fe items δ = some (.ok (IL (xs.map g)) δ) := by
  rw [lcM_map (g := fun d => match d with | .int n => .int (g n) | d => d) hi (by rw [List.length_map]; exact hl) (by unfold noOwn; simp [hv]) fun d hd => ?_]
  · rw [List.map_map, show IL (xs.map g) = D.lst ((xs.map g).map D.int) from rfl, List.map_map]; rfl
  · obtain ⟨n, hn, rfl⟩ := List.mem_map.mp hd
    obtain ⟨δ1, e1, rfl, e2, e3⟩ := bind1 (v := v) (d := .int n) (δ := δ)
    exact ⟨_, e1, e2, e3, h n hn⟩
theorem wr_nat {T : List Int} {k : Nat} (h : k < T.length) : wr T (k : Int) = T[k] := by
  unfold wr
  rw [Int.emod_eq_of_lt (by omega) (by omega), Int.toNat_natCast, List.getD_eq_getElem?_getD, List.getElem?_eq_getElem h]
  rfl
theorem len7 {δ : De} {T : List Int} (h3 : δ[3]? = some (.val (IL T))) : callB lenD (consM (varM 3) (pureM [])) δ = some (.ok (.int (T.length : Int)) δ) := cb_of (one_of (var_of h3)) (by
  show some (D.int ((T.map D.int).length : Int)) = _
  rw [List.length_map])
theorem c8_of {T : List Int} (hT : T.length < 1000) {d : Nat} {s : Int} (hd : d < 4) (h0 : -12 ≤ s) (h1 : s < 13) (D0 : Sl) (tn : List (Int × Int)) (s10 s11 s12 : Sl) : c_8 (st7 D0 T (.val (.int (d : Int))) (flat (fw T) DL SH) tn (.val (.int s)) s10 s11 s12) = some (.nx (st7 D0 T (.val (.int (d : Int))) (flat (fw T) DL SH) tn (.val (.int s)) s10 s11 s12)) := by
  have a := call_of (f := F_follows_at) (m := consM (varM 3) (consM (varM 4) (consM (varM 9) (pureM [])))) (δ := st7 D0 T (.val (.int (d : Int))) (flat (fw T) DL SH) tn (.val (.int s)) s10 s11 s12) (cons_of (var_of rfl) (cons_of (var_of rfl) (one_of (var_of rfl)))) (e_follows T d s (by omega))
  have b : bin2 (inX false) (tupM (consM (varM 4) (consM (varM 9) (pureM [])))) (varM 7) (st7 D0 T (.val (.int (d : Int))) (flat (fw T) DL SH) tn (.val (.int s)) s10 s11 s12) = some (.ok (.bl (fw T d s)) (st7 D0 T (.val (.int (d : Int))) (flat (fw T) DL SH) tn (.val (.int s)) s10 s11 s12)) :=
    bin2_of (x := PD ((d : Int), s)) rfl (var_of rfl) (by rw [in_pairs, flat_in hd h0 h1])
  exact if_no (ne_no a b (by rw [eqB_bl]; unfold fw; rw [Int.toNat_natCast, beq_self_eq_true]))
theorem rev_pairs (T : List Int) : ((List.range T.length).map fun k : Nat => (wr T (k : Int), wr T ((T.length : Int) - 1 - k))) = T.zip T.reverse := by
  apply List.ext_getElem
  · rw [List.length_map, List.length_range, List.length_zip, List.length_reverse]; omega
  · intro k h1 h2
    rw [List.length_map, List.length_range] at h1
    rw [List.getElem_map, List.getElem_range, List.getElem_zip, List.getElem_reverse, wr_nat h1, show (T.length : Int) - 1 - k = ((T.length - 1 - k : Nat) : Int) by omega, wr_nat (by omega)]
theorem c9_of {T : List Int} (hT : T.length < 1000) (D0 s4 : Sl) (due tn : List (Int × Int)) (s9 s10 s11 s12 : Sl) : c_9 (st7 D0 T s4 due tn s9 s10 s11 s12) = some (.nx (st7 D0 T s4 due tn s9 s10 s11 s12)) := by
  have h3 : (st7 D0 T s4 due tn s9 s10 s11 s12)[3]? = some (.val (IL T)) := rfl
  have h13 : ownAt (st7 D0 T s4 due tn s9 s10 s11 s12) 13 = none := rfl
  have hlen : (st7 D0 T s4 due tn s9 s10 s11 s12).length = 17 := rfl
  unfold c_9
  generalize st7 D0 T s4 due tn s9 s10 s11 s12 = δ at *
  have a := call_of (f := F_backwards) (one_of (var_of h3)) (e_back T)
  have n1 := ne_no (cb_of (g := listD) (one_of a) (d := IL T.reverse) rfl) (un1_of (g := revD) (var_of h3) (d := .lst (T.map D.int).reverse) rfl) (by rw [← List.map_reverse, eqB_ints]; simp)
  have hi : itM rng1 (consM (callB lenD (consM (varM 3) (pureM []))) (pureM [])) δ = some (.ok (((List.range T.length).map fun k : Nat => (k : Int)).map D.int) δ) := itM_of (one_of (len7 h3)) (by rw [rng1_len (by omega), rangeL_ints])
  have lc : lcM [13] (bName 13) (pureM true) (tupM (consM (bin2 ixD (varM 3) (varM 13)) (consM (bin2 ixD (varM 3) (bin2 subD (bin2 subD (callB lenD (consM (varM 3) (pureM []))) (pureM (.int 1))) (varM 13))) (pureM [])))) (itM rng1 (consM (callB lenD (consM (varM 3) (pureM []))) (pureM []))) δ = some (.ok (PL (T.zip T.reverse)) δ) := by
    rw [lc_pairs (g := fun i => (wr T i, wr T ((T.length : Int) - 1 - i))) hi (by simp; omega) h13 fun n hn => ?_, List.map_map, ← rev_pairs]
    · rfl
    · obtain ⟨k, hk, rfl⟩ := List.mem_map.mp hn
      have hk := List.mem_range.mp hk
      have e13 : (δ.set 13 (.val (.int (k : Int))))[13]? = some (.val (.int (k : Int))) := List.getElem?_set_self (by rw [hlen]; decide)
      have e3 : (δ.set 13 (.val (.int (k : Int))))[3]? = some (.val (IL T)) := by rw [List.getElem?_set_ne (by decide)]; exact h3
      exact tup_of (cons_of (bin2_of (var_of e3) (var_of e13) (ix_wr (by omega) (by omega))) (one_of (bin2_of (var_of e3) (bin2_of (bin2_of (len7 e3) (y := .int 1) rfl rfl) (var_of e13) rfl) (ix_wr (by omega) (by omega))))) (by simp)
  have zl : (T.zip T.reverse).length < 1000000 := by rw [List.length_zip]; exact Nat.lt_of_le_of_lt (Nat.min_le_left _ _) (by omega)
  have n2 := ne_no (call_of (f := F_crab) (one_of (var_of h3)) (e_crab T)) (call_of (one_of lc) (e_ls _ zl)) (by rw [eqB_bl, beq_self_eq_true])
  exact if_no (or_no n1 n2)
theorem c10_of {T : List Int} (hT : T.length < 1000) (hb : ∀ n ∈ T, 48 ≤ n ∧ n < 61) (D0 s4 : Sl) (due tn : List (Int × Int)) (s9 s10 s11 s12 : Sl) : c_10 (st7 D0 T s4 due tn s9 s10 s11 s12) = some (.nx (st7 D0 T s4 due tn s9 s10 s11 s12)) := by
  have h3 : (st7 D0 T s4 due tn s9 s10 s11 s12)[3]? = some (.val (IL T)) := rfl
  have h16 : ownAt (st7 D0 T s4 due tn s9 s10 s11 s12) 16 = none := rfl
  have hlen : (st7 D0 T s4 due tn s9 s10 s11 s12).length = 17 := rfl
  unfold c_10
  generalize st7 D0 T s4 due tn s9 s10 s11 s12 = δ at *
  have a := call_of (f := F_mirrored) (m := consM (varM 3) (consM (pureM (.int 110)) (pureM []))) (cons_of (var_of h3) (one_of (d := .int 110) rfl)) (e_mirr (X := IL T) T 110 rfl (by omega) fun n hn => by have := hb n hn; omega)
  have lc : lcM [16] (bName 16) (pureM true) (bin2 subD (pureM (.int 110)) (varM 16)) (seqM (varM 3)) δ = some (.ok (IL (T.map (110 - ·))) δ) := lc_ints (g := (110 - ·)) (X := IL T) rfl h3 (by omega) h16 fun n hn =>
    bin2_of (x := .int 110) rfl (var_of (List.getElem?_set_self (by rw [hlen]; decide))) rfl
  have n1 := ne_no (cb_of (g := listD) (one_of a) (d := IL (T.map (110 - ·))) rfl) lc (by rw [eqB_ints]; simp)
  have b := call_of (f := F_mirrored) (cons_of a (one_of (m := pureM (.int 110)) (d := .int 110) rfl)) (e_mirr (X := IT (T.map (110 - ·))) (T.map (110 - ·)) 110 rfl (by rw [List.length_map]; omega) fun n hn => by
    obtain ⟨k, hk, rfl⟩ := List.mem_map.mp hn
    have := hb k hk
    omega)
  have e : ((T.map (110 - ·)).map (110 - ·)) = T := by
    rw [List.map_map]
    conv => rhs; rw [← List.map_id T]
    apply List.map_congr_left
    intro n _
    show 110 - (110 - n) = n
    omega
  rw [e] at b
  have n2 := ne_no b (cb_of (g := tupleD) (one_of (var_of h3)) (d := IT T) rfl) (by rw [eqB_tups]; simp)
  exact if_no (or_no n1 n2)
theorem cost_list (T : List Int) : ((List.range (T.length - 1)).map fun k : Nat => mvc (wr T (k : Int)) (wr T ((k : Int) + 1))) = (T.zip T.tail).map fun p => mvc p.1 p.2 := by
  apply List.ext_getElem
  · simp
  · intro k h1 h2
    rw [List.length_map, List.length_range] at h1
    rw [List.getElem_map, List.getElem_range, List.getElem_map, List.getElem_zip, List.getElem_tail, wr_nat (by omega), show (k : Int) + 1 = ((k + 1 : Nat) : Int) by omega, wr_nat (by omega)]
theorem mvc_eq (a b : Int) : absI (b - a) + (if a == b then 2 else 0) = mvc a b := by
  unfold mvc
  by_cases h : a = b
  · subst h
    simp [absI]
  · rw [if_neg h, beq_false_of_ne h]
    simp
theorem c11_of {T : List Int} (hT : T.length < 1000) (D0 s4 : Sl) (due tn : List (Int × Int)) (s9 s10 s11 s12 : Sl) : c_11 (st7 D0 T s4 due tn s9 s10 s11 s12) = some (.nx (st7 D0 T s4 due tn s9 s10 s11 s12)) := by
  have h3 : (st7 D0 T s4 due tn s9 s10 s11 s12)[3]? = some (.val (IL T)) := rfl
  have h13 : ownAt (st7 D0 T s4 due tn s9 s10 s11 s12) 13 = none := rfl
  have hlen : (st7 D0 T s4 due tn s9 s10 s11 s12).length = 17 := rfl
  unfold c_11
  generalize st7 D0 T s4 due tn s9 s10 s11 s12 = δ at *
  have hi : itM rng1 (consM (bin2 subD (callB lenD (consM (varM 3) (pureM []))) (pureM (.int 1))) (pureM [])) δ = some (.ok (((List.range (T.length - 1)).map fun k : Nat => (k : Int)).map D.int) δ) := itM_of (one_of (bin2_of (len7 h3) (y := .int 1) rfl rfl)) (by rw [rng1_pred (by omega), rangeL_ints])
  have lc := lc_intsX (v := 13) (fe := bin2 addD (callB absD (consM (bin2 subD (bin2 ixD (varM 3) (bin2 addD (varM 13) (pureM (.int 1)))) (bin2 ixD (varM 3) (varM 13))) (pureM []))) (iteM (tst (bin2 eqD (bin2 ixD (varM 3) (varM 13)) (bin2 ixD (varM 3) (bin2 addD (varM 13) (pureM (.int 1)))))) (pureM (.int 2)) (pureM (.int 0)))) (g := fun i => mvc (wr T i) (wr T (i + 1))) hi (by simp; omega) h13 fun n hn => by
    obtain ⟨k, hk, rfl⟩ := List.mem_map.mp hn
    have hk := List.mem_range.mp hk
    have e13 : (δ.set 13 (.val (.int (k : Int))))[13]? = some (.val (.int (k : Int))) := List.getElem?_set_self (by rw [hlen]; decide)
    have e3 : (δ.set 13 (.val (.int (k : Int))))[3]? = some (.val (IL T)) := by rw [List.getElem?_set_ne (by decide)]; exact h3
    generalize δ.set 13 (.val (.int (k : Int))) = δ' at *
    have i0 := bin2_of (g := ixD) (var_of e3) (var_of e13) (ix_wr (T := T) (i := (k : Int)) (by omega) (by omega))
    have i1 := bin2_of (g := ixD) (var_of e3) (bin2_of (g := addD) (n := pureM (.int 1)) (var_of e13) (y := .int 1) rfl (d := .int ((k : Int) + 1)) rfl) (ix_wr (T := T) (i := (k : Int) + 1) (by omega) (by omega))
    have it := ite_of (a := pureM (.int 2)) (b := pureM (.int 0)) (eq_of i0 i1 (eqB_int _ _)) (x := .int 2) (y := .int 0) rfl rfl
    refine bin2_of (cb_of (one_of (bin2_of i1 i0 (d := .int (wr T ((k : Int) + 1) - wr T (k : Int))) rfl)) (d := .int (absI (wr T ((k : Int) + 1) - wr T (k : Int)))) rfl) it ?_
    rw [← mvc_eq]
    cases wr T (k : Int) == wr T ((k : Int) + 1) <;> rfl
  rw [List.map_map] at lc
  have e : ((fun i => mvc (wr T i) (wr T (i + 1))) ∘ fun k : Nat => (k : Int)) = fun k : Nat => mvc (wr T (k : Int)) (wr T ((k : Int) + 1)) := rfl
  rw [e, cost_list] at lc
  have a := call_of (f := F_tune_cost) (one_of (var_of h3)) (e_cost T (by omega))
  refine if_no (ne_no a (cb_of (one_of lc) (d := .int ((T.zip T.tail).map fun p => mvc p.1 p.2).sum) ?_) (by rw [eqB_int, beq_self_eq_true]))
  show (intsOf (List.map D.int _)).map (fun ns => D.int ns.sum) = _
  rw [intsOf_map]
  rfl

theorem e_dice (n : Int) : ∃ x y z : Int, F__law_dice [.int n] = some (.ret (.lst [.int x, .int y, .int z])) := by
  by_cases h1 : -10 < n <;> by_cases h2 : n < 10
  · exact ⟨absI n, 0, 2, by simp [F__law_dice, b__law_dice, defF, startD, seqS, thenS, FL.bindM, pureM, varM, liftO, FL.consM, callM, resM, callB, bin2, un1, tst, toB, FL.andM, FL.orM, FL.notM, andT, orT, iteM, chainM, tupM, lstM, intM, subD, mulD, modD, fdivD, addD, ltD, leD, gtD, geD, eqD_int, neD_int, eqD_bl, neD_bl, negD, int2, int2C, absD, lenD, FL.intD, outRes, nxS, bName, bTup, bCons, bNil, seqOf, h1, h2]⟩
  all_goals refine ⟨n, 1 + n % 1009, if 10 ^ 18 ≤ n then 1 else 0, ?_⟩
  all_goals by_cases h3 : (10 : Int) ^ 18 ≤ n <;> simp [F__law_dice, b__law_dice, defF, startD, seqS, thenS, FL.bindM, pureM, varM, liftO, FL.consM, callM, resM, callB, bin2, un1, tst, toB, FL.andM, FL.orM, FL.notM, andT, orT, iteM, chainM, tupM, lstM, intM, subD, mulD, modD, fdivD, addD, ltD, leD, gtD, geD, eqD_int, neD_int, eqD_bl, neD_bl, negD, int2, int2C, absD, lenD, FL.intD, outRes, nxS, bName, bTup, bCons, bNil, seqOf, h1, h2, powD, CPow] <;> split <;> simp_all
theorem finR (ns : List Int) : ∃ x y z, b_rounds [.un, .val (.int 1), .val (.lst ((ns.take 1).map D.int)), .un] = some (.rt (.lst [.lst [.int x, .int y, .int z]])) := by
  have key : ∀ n : Int, ∃ x y z, thenS (lcM [3] (bName 3) (pureM true) (callM F__law_dice (consM (varM 3) (pureM []))) (seqM (varM 2))) (fun d _ => some (.rt d)) [.un, .val (.int 1), .val (.lst [.int n]), .un] = some (.rt (.lst [.lst [.int x, .int y, .int z]])) := fun n => by
    obtain ⟨x, y, z, e⟩ := e_dice n
    refine ⟨x, y, z, ?_⟩
    rw [thenS_ok (lcM_map (g := fun _ => .lst [.int x, .int y, .int z]) (ds := [.int n]) (δ1 := [.un, .val (.int 1), .val (.lst [.int n]), .un]) rfl (by simp) rfl fun d hd => ?_)]
    · rfl
    · simp only [List.mem_singleton] at hd
      subst hd
      obtain ⟨δ1, e1, rfl, e2, e3⟩ := bind1 (v := 3) (d := .int n) (δ := [.un, .val (.int 1), .val (.lst [.int n]), .un])
      exact ⟨_, e1, e2, e3, call_of rfl e⟩
  cases ns with
  | nil =>
    obtain ⟨x, y, z, e⟩ := key 0
    exact ⟨x, y, z, e⟩
  | cons n r =>
    obtain ⟨x, y, z, e⟩ := key n
    refine ⟨x, y, z, ?_⟩
    show b_rounds [.un, .val (.int 1), .val (.lst [.int n]), .un] = _
    unfold b_rounds
    rw [rt_seq (if_no (eq_of (x := .lst [.int n]) (y := .lst []) (var_of rfl) (lst_of rfl (by decide)) (eqB_ints [n] []))) e]
theorem c12_of {T : List Int} (hT : T.length < 1000) {x y z : Int} (s4 : Sl) (due tn : List (Int × Int)) (s9 s10 s11 s12 : Sl) :
    ∃ x' y' z' : Int, ∃ s11' s12' : Sl, c_12 (st7 (.own [.int x, .int y, .int z]) T s4 due tn s9 s10 s11 s12) = some (.nx (st7 (.own [.int x', .int y', .int z']) T s4 due tn s9 s10 s11' s12')) := by
  have t1 : tst (bin2 gtD (callB lenD (consM (varM 3) (pureM []))) (pureM (.int 1))) (st7 (.own [.int x, .int y, .int z]) T s4 due tn s9 s10 s11 s12) = some (.ok (decide ((T.length : Int) > 1)) (st7 (.own [.int x, .int y, .int z]) T s4 due tn s9 s10 s11 s12)) :=
    tst_of (bin2_of (len7 rfl) (y := .int 1) rfl rfl)
  unfold c_12
  by_cases h1 : (T.length : Int) > 1
  · rw [decide_eq_true h1] at t1
    rw [if_yes t1]
    obtain ⟨r, x', y', z', r0, r1, hr⟩ := roll_of (i := 1) (f := bin2 subD (callB lenD (consM (varM 3) (pureM []))) (pureM (.int 1))) (m := (T.length : Int) - 1) (x := x) (y := y) (z := z) (δ := st7 (.own [.int x, .int y, .int z]) T s4 due tn s9 s10 s11 s12) ⟨by omega, by omega⟩ (bin2_of (len7 rfl) (y := .int 1) rfl rfl) rfl
    have a1 : (thenS (bin2 addD (pureM (.int 1)) (rollM 1 (bin2 subD (callB lenD (consM (varM 3) (pureM []))) (pureM (.int 1))))) fun d δ => some (Out.nx (δ.set 11 (.val d)))) (st7 (.own [.int x, .int y, .int z]) T s4 due tn s9 s10 s11 s12) = some (.nx (st7 (.own [.int x', .int y', .int z']) T s4 due tn s9 s10 (.val (.int (1 + r))) s12)) := by
      rw [thenS_ok (bin2_of (x := .int 1) rfl hr rfl)]; rfl
    rw [rt_seq a1 rfl]
    generalize hj : 1 + r = j
    have hj0 : 0 < j := by omega
    have hj1 : j < T.length := by omega
    have hi : itM rng1 (consM (bin2 addD (callB lenD (consM (varM 3) (pureM []))) (pureM (.int 1))) (pureM [])) (st7 (.own [.int x', .int y', .int z']) T s4 due tn s9 s10 (.val (.int j)) s12) = some (.ok (((List.range (T.length + 1)).map fun k : Nat => (k : Int)).map D.int) (st7 (.own [.int x', .int y', .int z']) T s4 due tn s9 s10 (.val (.int j)) s12)) :=
      itM_of (one_of (bin2_of (len7 rfl) (y := .int 1) rfl (d := .int ((T.length + 1 : Nat) : Int)) rfl)) (by rw [rng1_len (by omega), rangeL_ints])
    have lc : lcM [13] (bName 13) (pureM true) (tupM (consM (bin2 ixD (varM 3) (bin2 modD (varM 13) (callB lenD (consM (varM 3) (pureM []))))) (consM (bin2 ixD (varM 3) (bin2 modD (bin2 subD (varM 13) (varM 11)) (callB lenD (consM (varM 3) (pureM []))))) (pureM [])))) (itM rng1 (consM (bin2 addD (callB lenD (consM (varM 3) (pureM []))) (pureM (.int 1))) (pureM []))) (st7 (.own [.int x', .int y', .int z']) T s4 due tn s9 s10 (.val (.int j)) s12) =
        some (.ok (PL (rp T j)) (st7 (.own [.int x', .int y', .int z']) T s4 due tn s9 s10 (.val (.int j)) s12)) := by
      have e : rp T j = ((List.range (T.length + 1)).map fun k : Nat => (k : Int)).map fun i => (wr T i, wr T (i - j)) := by
        unfold rp
        rw [List.map_map]
        rfl
      rw [e]
      refine lc_pairs (g := fun i => (wr T i, wr T (i - j))) hi (by simp; omega) rfl fun n _ => ?_
      have hm : ∀ {f : M D} {i : Int} {δ' : De}, δ'[3]? = some (.val (IL T)) → f δ' = some (.ok (.int i) δ') → bin2 ixD (varM 3) (bin2 modD f (callB lenD (consM (varM 3) (pureM [])))) δ' = some (.ok (.int (wr T i)) δ') := fun {f i δ'} h3 hf => by
        have q0 : 0 ≤ i % (T.length : Int) := Int.emod_nonneg _ (by omega)
        have q1 : i % (T.length : Int) < T.length := Int.emod_lt_of_pos _ (by omega)
        have ew : wr T (i % (T.length : Int)) = wr T i := by unfold wr; rw [Int.emod_emod_of_dvd _ (Int.dvd_refl _)]
        refine bin2_of (var_of h3) (bin2_of hf (len7 h3) (d := .int (i % (T.length : Int))) ?_) (by rw [ix_wr (by omega) q1, ew])
        show (if 0 < (T.length : Int) then some (D.int (i % (T.length : Int))) else none) = _
        rw [if_pos (by omega)]
      exact tup_of (cons_of (hm rfl (var_of rfl)) (one_of (hm rfl (bin2_of (var_of rfl) (var_of rfl) rfl)))) (by simp)
    have a2 : (thenS (lcM [13] (bName 13) (pureM true) (tupM (consM (bin2 ixD (varM 3) (bin2 modD (varM 13) (callB lenD (consM (varM 3) (pureM []))))) (consM (bin2 ixD (varM 3) (bin2 modD (bin2 subD (varM 13) (varM 11)) (callB lenD (consM (varM 3) (pureM []))))) (pureM [])))) (itM rng1 (consM (bin2 addD (callB lenD (consM (varM 3) (pureM []))) (pureM (.int 1))) (pureM [])))) fun d δ => some (Out.nx (δ.set 12 (.val d)))) (st7 (.own [.int x', .int y', .int z']) T s4 due tn s9 s10 (.val (.int j)) s12) =
        some (.nx (st7 (.own [.int x', .int y', .int z']) T s4 due tn s9 s10 (.val (.int j)) (.val (PL (rp T j))))) := by rw [thenS_ok lc]; rfl
    rw [rt_seq a2 rfl]
    have rl : (rp T j).length < 1000000 := by unfold rp; rw [List.length_map, List.length_range]; omega
    have n1 := ne_no (call_of (f := F_round_may) (m := consM (varM 3) (consM (varM 11) (pureM []))) (δ := st7 (.own [.int x', .int y', .int z']) T s4 due tn s9 s10 (.val (.int j)) (.val (PL (rp T j)))) (cons_of (var_of rfl) (one_of (var_of rfl))) (e_round T j hT hj0 hj1)) (call_of (one_of (var_of (i := 12) (d := PL (rp T j)) rfl)) (e_ls _ rl)) (by rw [eqB_bl, beq_self_eq_true])
    exact ⟨x', y', z', _, _, if_no n1⟩
  · rw [decide_eq_false h1] at t1
    exact ⟨x, y, z, s11, s12, by rw [if_not t1]; rfl⟩
theorem body_ok (x y z : Int) : NyP (fun δ => δ.length = 17 ∧ ownAt δ 14 = none ∧ ownAt δ 15 = none) b_body (lawD 17 1 x y z) := by
  obtain ⟨r, x1, y1, z1, r0, r1, hr⟩ := roll1 (i := 1) (m := 7) (x := x) (y := y) (z := z) (δ := lawD 17 1 x y z) ⟨by decide, by decide⟩ rfl
  obtain ⟨n, rfl⟩ : ∃ n : Nat, r = n := ⟨r.toNat, by omega⟩
  obtain ⟨T, x2, y2, z2, tl, tb, ht⟩ := lcM_rolls (i := 1) (v := 13) (c := 48) (m := 13) (x := x1) (y := y1) (z := z1) ⟨by decide, by decide⟩ (by decide) (itM_of (one_of hr) (rng1_len (by omega))) (by rw [rangeL_len]; omega) rfl rfl
  rw [rangeL_len] at tl
  have hT : T.length < 1000 := by omega
  have hb : ∀ n ∈ T, 48 ≤ n ∧ n < 61 := fun n hn => by have := tb n hn; omega
  unfold b_body
  refine ny_seq (δ' := [.un, .own [.int x2, .int y2, .int z2], .un, .val (IL T), .un, .un, .un, .un, .un, .un, .un, .un, .un, .un, .un, .un, .un]) (by unfold c_1; rw [thenS_ok ht]; rfl) ?_
  refine ny_seq (δ' := [.un, .own [.int x2, .int y2, .int z2], .un, .val (IL T), .un, .val (IL DL), .val (IL SH), .un, .un, .un, .un, .un, .un, .un, .un, .un, .un]) (by
    unfold c_2
    rw [thenS_ok (cons_of (m := lrg1 (pureM (.int 4))) (d := IL DL) rfl (one_of (m := lrg2 (bin2 subD (pureM (.int 0)) (pureM (.int 12))) (pureM (.int 13))) (d := IL SH) rfl))]
    rfl) ?_
  refine ny_seq (δ' := st7 (.own [.int x2, .int y2, .int z2]) T .un [] [] .un .un .un .un) (by unfold c_3; rfl) ?_
  obtain ⟨s4, s9, s10, s12, h4⟩ := c4_of hT (.own [.int x2, .int y2, .int z2]) ⟨_, _, _, rfl⟩ .un .un .un .un .un
  refine ny_seq h4 ?_
  refine ny_seq (c5_of hT _ s4 _ s9 s10 .un s12) ?_
  refine ny_seq (c6_of hT _ s4 _ s9 s10 .un s12) ?_
  obtain ⟨r3, x3, y3, z3, q0, q1, hq⟩ := roll1 (i := 1) (m := 4) (x := x2) (y := y2) (z := z2) (δ := st7 (.own [.int x2, .int y2, .int z2]) T s4 (flat (fw T) DL SH) (flat (fm T) DL AB) s9 s10 .un s12) ⟨by decide, by decide⟩ rfl
  obtain ⟨r4, x4, y4, z4, u0, u1, hu⟩ := roll1 (i := 1) (m := 25) (x := x3) (y := y3) (z := z3) (δ := st7 (.own [.int x3, .int y3, .int z3]) T s4 (flat (fw T) DL SH) (flat (fm T) DL AB) s9 s10 .un s12) ⟨by decide, by decide⟩ rfl
  obtain ⟨d, rfl⟩ : ∃ d : Nat, r3 = d := ⟨r3.toNat, by omega⟩
  refine ny_seq (δ' := st7 (.own [.int x4, .int y4, .int z4]) T (.val (.int (d : Int))) (flat (fw T) DL SH) (flat (fm T) DL AB) (.val (.int (r4 - 12))) s10 .un s12) (by
    unfold c_7
    rw [thenS_ok (tup_of (cons_of hq (one_of (bin2_of hu (y := .int 12) rfl (d := .int (r4 - 12)) rfl))) (by simp))]
    rfl) ?_
  refine ny_seq (c8_of hT (by omega) (by omega) (by omega) _ _ s10 .un s12) ?_
  refine ny_seq (c9_of hT _ _ _ _ _ s10 .un s12) ?_
  refine ny_seq (c10_of hT hb _ _ _ _ _ s10 .un s12) ?_
  refine ny_seq (c11_of hT _ _ _ _ _ s10 .un s12) ?_
  obtain ⟨x5, y5, z5, s11', s12', h12⟩ := c12_of hT (x := x4) (y := y4) (z := z4) (.val (.int (d : Int))) (flat (fw T) DL SH) (flat (fm T) DL AB) (.val (.int (r4 - 12))) s10 .un s12
  exact ny_end h12 ⟨rfl, rfl, rfl⟩

/-! the law's end, but for one thing: that `mirrored([60], 59)` raises 'note' -/
abbrev Wr : List D := [.tup [.fn lam_3, .str "size"], .tup [.fn lam_2, .str "size"], .tup [.fn lam_1, .str "size"], .tup [.fn lam_0, .str "note"]]
theorem eqnote : eqB (.str "note") (.str "note") = some true := by rw [eqB_str (by decide +kernel) (by decide +kernel)]; exact congrArg some (by decide +kernel)
theorem eqsize : eqB (.str "size") (.str "size") = some true := by rw [eqB_str (by decide +kernel) (by decide +kernel)]; exact congrArg some (by decide +kernel)
def WOk (d : D) : Prop := ∃ (L : Lam) (s : Str) (j : Nat) (m : M D), d = .tup [.fn L, .str s] ∧ L.ix = j ∧ LT[j]? = some (L, m) ∧ eqB (.str s) (.str s) = some true ∧ ∀ δ, toldM NL m δ = some (.ok (.str s) δ)
def Mirr : Prop := F_mirrored [.lst [.int 60], .int 59] = some (.ex 1)
theorem wr_ok (hm : Mirr) : ∀ d ∈ Wr, WOk d :=
  lst_cons ⟨_, _, 3, _, rfl, rfl, rfl, eqsize, fun δ => told_ex (k := 6) (n := "size") rfl rfl⟩ (lst_cons ⟨_, _, 2, _, rfl, rfl, rfl, eqsize, fun δ => told_ex (k := 6) (n := "size") rfl rfl⟩ (lst_cons ⟨_, _, 1, _, rfl, rfl, rfl, eqsize, fun δ => told_ex (k := 6) (n := "size") rfl rfl⟩
    (lst_cons ⟨_, _, 0, _, rfl, rfl, rfl, eqnote, fun δ => told_ex (k := 1) (n := "note") (call_ex (cons_of (d := .lst [.int 60]) (lst_of rfl (by decide)) (one_of (d := .int 59) rfl)) hm) rfl⟩ lst_nil)))
theorem rm1 : F_round_may [.tup [.int 60, .int 60, .int 67], .int 1] = some (.ret (.bl false)) := by kernel_rfl
theorem rm2 : F_round_may [.tup [.int 60, .int 64, .int 60, .int 67], .int 1] = some (.ret (.bl false)) := by kernel_rfl
theorem rm3 : F_round_may [.tup [.int 60, .int 60, .int 60], .int 1] = some (.ret (.bl true)) := by kernel_rfl
theorem eqb3 : eqB (.lst [.bl false, .bl false, .bl true]) (.lst [.bl false, .bl false, .bl true]) = some true := by kernel_rfl
def g3 (d : D) : D := match F_round_may [d, .int 1] with | some (.ret v) => v | _ => .non
theorem rest_ok (hm : Mirr) (δ : De) (hl : δ.length = 17) (h14 : ownAt δ 14 = none) (h15 : ownAt δ 15 = none) : b_rest δ = some (.rt (.bl true)) := by
  unfold b_rest
  rw [seqS_nx (δ' := δ.set 2 (.val (.lst Wr))) rfl]
  have g2 : (δ.set 2 (.val (.lst Wr)))[2]? = some (.val (.lst Wr)) := List.getElem?_set_self (by omega)
  have o15 : ownAt (δ.set 2 (.val (.lst Wr))) 15 = none := by unfold ownAt at h15 ⊢; rw [List.getElem?_set_ne (by decide)]; exact h15
  have o14 : ownAt (δ.set 2 (.val (.lst Wr))) 14 = none := by unfold ownAt at h14 ⊢; rw [List.getElem?_set_ne (by decide)]; exact h14
  have l2 : (δ.set 2 (.val (.lst Wr))).length = 17 := by simp [hl]
  generalize δ.set 2 (.val (.lst Wr)) = δ2 at g2 o14 o15 l2 ⊢
  have f1 := wrong_nil (nl := NL) (lt := LT) (Wr := Wr) g2 o15 (by omega) (by decide) (wr_ok hm)
  have f3 : lcM [14] (bName 14) (pureM true) (callM F_round_may (consM (varM 14) (consM (pureM (.int 1)) (pureM [])))) (seqM (lstM (consM (tupM (consM (pureM (.int 60)) (consM (pureM (.int 60)) (consM (pureM (.int 67)) (pureM []))))) (consM (tupM (consM (pureM (.int 60)) (consM (pureM (.int 64)) (consM (pureM (.int 60)) (consM (pureM (.int 67)) (pureM [])))))) (consM (tupM (consM (pureM (.int 60)) (consM (pureM (.int 60)) (consM (pureM (.int 60)) (pureM []))))) (pureM [])))))) δ2 = some (.ok (.lst ([.tup [.int 60, .int 60, .int 67], .tup [.int 60, .int 64, .int 60, .int 67], .tup [.int 60, .int 60, .int 60]].map g3)) δ2) := by
    refine lcM_map (vs := [14]) (g := g3) (ds := [.tup [.int 60, .int 60, .int 67], .tup [.int 60, .int 64, .int 60, .int 67], .tup [.int 60, .int 60, .int 60]]) (δ1 := δ2) rfl (by decide) (by unfold noOwn; simp [o14]) fun d hd => ?_
    obtain ⟨δ3, b1, rfl, b2, b3⟩ := bind1 (v := 14) (d := d) (δ := δ2)
    have v14 : (δ2.set 14 (.val d))[14]? = some (.val d) := List.getElem?_set_self (by omega)
    refine ⟨_, b1, b2, b3, ?_⟩
    simp only [List.mem_cons, List.not_mem_nil, or_false] at hd
    rcases hd with e | e | e <;> subst e
    · exact call_of (cons_of (var_of v14) (one_of (d := .int 1) rfl)) (by rw [show g3 (.tup [.int 60, .int 60, .int 67]) = .bl false by unfold g3; rw [rm1]]; exact rm1)
    · exact call_of (cons_of (var_of v14) (one_of (d := .int 1) rfl)) (by rw [show g3 (.tup [.int 60, .int 64, .int 60, .int 67]) = .bl false by unfold g3; rw [rm2]]; exact rm2)
    · exact call_of (cons_of (var_of v14) (one_of (d := .int 1) rfl)) (by rw [show g3 (.tup [.int 60, .int 60, .int 60]) = .bl true by unfold g3; rw [rm3]]; exact rm3)
  have e3 : [.tup [.int 60, .int 60, .int 67], .tup [.int 60, .int 64, .int 60, .int 67], .tup [.int 60, .int 60, .int 60]].map g3 = [D.bl false, .bl false, .bl true] := by simp [g3, rm1, rm2, rm3]
  rw [e3] at f3
  rw [rt_seq (if_no (ne_no f3 (lst_of rfl (by decide)) eqb3)) (thenS_ok (bin2_of f1 (lst_of rfl (by decide)) (by unfold eqD; rw [eqB_nil]; rfl)))]
theorem fin_of (hm : Mirr) (x y z : Int) : ∃ δ', b_body (lawD 17 1 x y z) = some (.nx δ') ∧ b_rest δ' = some (.rt (.bl true)) := by
  obtain ⟨δ', h, h1, h2, h3⟩ := body_ok x y z
  exact ⟨δ', h, rest_ok hm δ' h1 h2 h3⟩

theorem mirr : Mirr := by unfold Mirr; rfl
theorem fin (x y z : Int) : ∃ δ', b_body (lawD 17 1 x y z) = some (.nx δ') ∧ b_rest δ' = some (.rt (.bl true)) := fin_of mirr x y z

end V
set_option maxHeartbeats 2000000
namespace V
open PySem PySem.Spec PyProof.Rows L2 FL

theorem sc__law_told : FnScope ["what"] ["what"] (defScope s__law_told) := ⟨rfl, rfl, rfl, by decide +kernel, rfl, by decide +kernel, by decide +kernel⟩
set_option maxHeartbeats 8000000 in
theorem all_mk {P : Program} {w : World} {K : PySem.W.Frag} {h : Heap} {mg : Str → Option Value} {fa C Pt : Addr} (X : K.In h) (G : h.Ns mainGlobals mg) (hfa : mg "law" = some (.ref fa))
    {f_check_note : Addr} {od_check_note an_check_note : Option Addr} {sl_check_note : Array (Option Value)} {oc_check_note kV_check_note dc_check_note pm_check_note cd_check_note ct_check_note : Value}
    {f_size : Addr} {od_size an_size : Option Addr} {sl_size : Array (Option Value)} {oc_size kV_size dc_size pm_size cd_size ct_size : Value}
    {f_overlap : Addr} {od_overlap an_overlap : Option Addr} {sl_overlap : Array (Option Value)} {oc_overlap kV_overlap dc_overlap pm_overlap cd_overlap ct_overlap : Value}
    {f_backwards : Addr} {od_backwards an_backwards : Option Addr} {sl_backwards : Array (Option Value)} {oc_backwards kV_backwards dc_backwards pm_backwards cd_backwards ct_backwards : Value}
    {f__law_dice : Addr} {od__law_dice an__law_dice : Option Addr} {sl__law_dice : Array (Option Value)} {oc__law_dice kV__law_dice dc__law_dice pm__law_dice cd__law_dice ct__law_dice : Value}
    {f__law_sounds : Addr} {od__law_sounds an__law_sounds : Option Addr} {sl__law_sounds : Array (Option Value)} {oc__law_sounds kV__law_sounds dc__law_sounds pm__law_sounds cd__law_sounds ct__law_sounds : Value}
    {f_turned : Addr} {od_turned an_turned : Option Addr} {sl_turned : Array (Option Value)} {oc_turned kV_turned dc_turned pm_turned cd_turned ct_turned : Value}
    {f_simple : Addr} {od_simple an_simple : Option Addr} {sl_simple : Array (Option Value)} {oc_simple kV_simple dc_simple pm_simple cd_simple ct_simple : Value}
    {f_move_cost : Addr} {od_move_cost an_move_cost : Option Addr} {sl_move_cost : Array (Option Value)} {oc_move_cost kV_move_cost dc_move_cost pm_move_cost cd_move_cost ct_move_cost : Value}
    {f_goes_together : Addr} {od_goes_together an_goes_together : Option Addr} {sl_goes_together : Array (Option Value)} {oc_goes_together kV_goes_together dc_goes_together pm_goes_together cd_goes_together ct_goes_together : Value}
    {f_is_perfect : Addr} {od_is_perfect an_is_perfect : Option Addr} {sl_is_perfect : Array (Option Value)} {oc_is_perfect kV_is_perfect dc_is_perfect pm_is_perfect cd_is_perfect ct_is_perfect : Value}
    {f_mirrored : Addr} {od_mirrored an_mirrored : Option Addr} {sl_mirrored : Array (Option Value)} {oc_mirrored kV_mirrored dc_mirrored pm_mirrored cd_mirrored ct_mirrored : Value}
    {f_tune_cost : Addr} {od_tune_cost an_tune_cost : Option Addr} {sl_tune_cost : Array (Option Value)} {oc_tune_cost kV_tune_cost dc_tune_cost pm_tune_cost cd_tune_cost ct_tune_cost : Value}
    {f_runs_alike : Addr} {od_runs_alike an_runs_alike : Option Addr} {sl_runs_alike : Array (Option Value)} {oc_runs_alike kV_runs_alike dc_runs_alike pm_runs_alike cd_runs_alike ct_runs_alike : Value}
    {f_may_sound : Addr} {od_may_sound an_may_sound : Option Addr} {sl_may_sound : Array (Option Value)} {oc_may_sound kV_may_sound dc_may_sound pm_may_sound ct_may_sound : Value}
    {CG_may_sound PG_may_sound : Addr} {od2_may_sound : Option Addr} {cv2_may_sound : Array Value} {sl2_may_sound : Array (Option Value)}
    {f_follows_at : Addr} {od_follows_at an_follows_at : Option Addr} {sl_follows_at : Array (Option Value)} {oc_follows_at kV_follows_at dc_follows_at pm_follows_at cd_follows_at ct_follows_at : Value}
    {f_mirror_follows : Addr} {od_mirror_follows an_mirror_follows : Option Addr} {sl_mirror_follows : Array (Option Value)} {oc_mirror_follows kV_mirror_follows dc_mirror_follows pm_mirror_follows cd_mirror_follows ct_mirror_follows : Value}
    {f_crab : Addr} {od_crab an_crab : Option Addr} {sl_crab : Array (Option Value)} {oc_crab kV_crab dc_crab pm_crab cd_crab ct_crab : Value}
    {f_round_may : Addr} {od_round_may an_round_may : Option Addr} {sl_round_may : Array (Option Value)} {oc_round_may kV_round_may dc_round_may pm_round_may cd_round_may ct_round_may : Value}
    {f_all_canons : Addr} {od_all_canons an_all_canons : Option Addr} {sl_all_canons : Array (Option Value)} {oc_all_canons kV_all_canons dc_all_canons pm_all_canons cd_all_canons ct_all_canons : Value}
    {f_all_mirrors : Addr} {od_all_mirrors an_all_mirrors : Option Addr} {sl_all_mirrors : Array (Option Value)} {oc_all_mirrors kV_all_mirrors dc_all_mirrors pm_all_mirrors cd_all_mirrors ct_all_mirrors : Value}
    {f__law_roll : Addr} {od__law_roll an__law_roll : Option Addr} {sl__law_roll : Array (Option Value)} {oc__law_roll kV__law_roll dc__law_roll pm__law_roll cd__law_roll ct__law_roll : Value}
    {f__law_rounds : Addr} {od__law_rounds an__law_rounds : Option Addr} {sl__law_rounds : Array (Option Value)} {oc__law_rounds kV__law_rounds dc__law_rounds pm__law_rounds cd__law_rounds ct__law_rounds : Value}
    {f__law_told : Addr} {od__law_told an__law_told : Option Addr} {sl__law_told : Array (Option Value)} {oc__law_told kV__law_told dc__law_told pm__law_told cd__law_told ct__law_told : Value}
    {f_law : Addr} {od_law an_law : Option Addr} {sl_law : Array (Option Value)} {oc_law kV_law dc_law pm_law ct_law : Value}
    {u_MOST : Tok}
    {u_PERFECT : Addr} {uo_PERFECT : Option Addr} {ui_PERFECT : Array Value} {un_PERFECT : Nat} {us_PERFECT : Array (Option Value)}
    {u_SOFT : Addr} {uo_SOFT : Option Addr} {ui_SOFT : Array Value} {un_SOFT : Nat} {us_SOFT : Array (Option Value)}
    {C_BadNote : Addr}
    {C_BadTime : Addr}
    {C_BadLine : Addr}
    {C_NoLine : Addr}
    {C_BadPaper : Addr}
    {C_BadSize : Addr}
    {C_BadText : Addr}
    {C_BadStore : Addr}
    {C_NoSuch : Addr}
    {odL : Option Addr} {cvL : Array Value} {slL : Array (Option Value)}
    (a_check_note : PySem.W.nsIn K mainGlobals "check_note" = some (some (.ref f_check_note)))
    (l_check_note : K.lookup f_check_note = some ⟨oc_check_note, od_check_note, .func (PySem.W.fnOf "check_note" "check_note" (defArgs s_check_note) (defBody s_check_note) (defScope s_check_note) .none kV_check_note dc_check_note pm_check_note an_check_note cd_check_note ct_check_note), sl_check_note⟩)
    (e_check_note : PySem.W.codeIn K cd_check_note "check_note" = true)
    (k_check_note : PySem.W.keepIn K (.ref f_check_note) = true)
    (a_size : PySem.W.nsIn K mainGlobals "size" = some (some (.ref f_size)))
    (l_size : K.lookup f_size = some ⟨oc_size, od_size, .func (PySem.W.fnOf "size" "size" (defArgs s_size) (defBody s_size) (defScope s_size) .none kV_size dc_size pm_size an_size cd_size ct_size), sl_size⟩)
    (e_size : PySem.W.codeIn K cd_size "size" = true)
    (k_size : PySem.W.keepIn K (.ref f_size) = true)
    (a_overlap : PySem.W.nsIn K mainGlobals "overlap" = some (some (.ref f_overlap)))
    (l_overlap : K.lookup f_overlap = some ⟨oc_overlap, od_overlap, .func (PySem.W.fnOf "overlap" "overlap" (defArgs s_overlap) (defBody s_overlap) (defScope s_overlap) .none kV_overlap dc_overlap pm_overlap an_overlap cd_overlap ct_overlap), sl_overlap⟩)
    (e_overlap : PySem.W.codeIn K cd_overlap "overlap" = true)
    (k_overlap : PySem.W.keepIn K (.ref f_overlap) = true)
    (a_backwards : PySem.W.nsIn K mainGlobals "backwards" = some (some (.ref f_backwards)))
    (l_backwards : K.lookup f_backwards = some ⟨oc_backwards, od_backwards, .func (PySem.W.fnOf "backwards" "backwards" (defArgs s_backwards) (defBody s_backwards) (defScope s_backwards) .none kV_backwards dc_backwards pm_backwards an_backwards cd_backwards ct_backwards), sl_backwards⟩)
    (e_backwards : PySem.W.codeIn K cd_backwards "backwards" = true)
    (k_backwards : PySem.W.keepIn K (.ref f_backwards) = true)
    (a__law_dice : PySem.W.nsIn K mainGlobals "_law_dice" = some (some (.ref f__law_dice)))
    (l__law_dice : K.lookup f__law_dice = some ⟨oc__law_dice, od__law_dice, .func (PySem.W.fnOf "_law_dice" "_law_dice" (defArgs s__law_dice) (defBody s__law_dice) (defScope s__law_dice) .none kV__law_dice dc__law_dice pm__law_dice an__law_dice cd__law_dice ct__law_dice), sl__law_dice⟩)
    (e__law_dice : PySem.W.codeIn K cd__law_dice "_law_dice" = true)
    (k__law_dice : PySem.W.keepIn K (.ref f__law_dice) = true)
    (a__law_sounds : PySem.W.nsIn K mainGlobals "_law_sounds" = some (some (.ref f__law_sounds)))
    (l__law_sounds : K.lookup f__law_sounds = some ⟨oc__law_sounds, od__law_sounds, .func (PySem.W.fnOf "_law_sounds" "_law_sounds" (defArgs s__law_sounds) (defBody s__law_sounds) (defScope s__law_sounds) .none kV__law_sounds dc__law_sounds pm__law_sounds an__law_sounds cd__law_sounds ct__law_sounds), sl__law_sounds⟩)
    (e__law_sounds : PySem.W.codeIn K cd__law_sounds "_law_sounds" = true)
    (k__law_sounds : PySem.W.keepIn K (.ref f__law_sounds) = true)
    (a_turned : PySem.W.nsIn K mainGlobals "turned" = some (some (.ref f_turned)))
    (l_turned : K.lookup f_turned = some ⟨oc_turned, od_turned, .func (PySem.W.fnOf "turned" "turned" (defArgs s_turned) (defBody s_turned) (defScope s_turned) .none kV_turned dc_turned pm_turned an_turned cd_turned ct_turned), sl_turned⟩)
    (e_turned : PySem.W.codeIn K cd_turned "turned" = true)
    (k_turned : PySem.W.keepIn K (.ref f_turned) = true)
    (a_simple : PySem.W.nsIn K mainGlobals "simple" = some (some (.ref f_simple)))
    (l_simple : K.lookup f_simple = some ⟨oc_simple, od_simple, .func (PySem.W.fnOf "simple" "simple" (defArgs s_simple) (defBody s_simple) (defScope s_simple) .none kV_simple dc_simple pm_simple an_simple cd_simple ct_simple), sl_simple⟩)
    (e_simple : PySem.W.codeIn K cd_simple "simple" = true)
    (k_simple : PySem.W.keepIn K (.ref f_simple) = true)
    (a_move_cost : PySem.W.nsIn K mainGlobals "move_cost" = some (some (.ref f_move_cost)))
    (l_move_cost : K.lookup f_move_cost = some ⟨oc_move_cost, od_move_cost, .func (PySem.W.fnOf "move_cost" "move_cost" (defArgs s_move_cost) (defBody s_move_cost) (defScope s_move_cost) .none kV_move_cost dc_move_cost pm_move_cost an_move_cost cd_move_cost ct_move_cost), sl_move_cost⟩)
    (e_move_cost : PySem.W.codeIn K cd_move_cost "move_cost" = true)
    (k_move_cost : PySem.W.keepIn K (.ref f_move_cost) = true)
    (a_goes_together : PySem.W.nsIn K mainGlobals "goes_together" = some (some (.ref f_goes_together)))
    (l_goes_together : K.lookup f_goes_together = some ⟨oc_goes_together, od_goes_together, .func (PySem.W.fnOf "goes_together" "goes_together" (defArgs s_goes_together) (defBody s_goes_together) (defScope s_goes_together) .none kV_goes_together dc_goes_together pm_goes_together an_goes_together cd_goes_together ct_goes_together), sl_goes_together⟩)
    (e_goes_together : PySem.W.codeIn K cd_goes_together "goes_together" = true)
    (k_goes_together : PySem.W.keepIn K (.ref f_goes_together) = true)
    (a_is_perfect : PySem.W.nsIn K mainGlobals "is_perfect" = some (some (.ref f_is_perfect)))
    (l_is_perfect : K.lookup f_is_perfect = some ⟨oc_is_perfect, od_is_perfect, .func (PySem.W.fnOf "is_perfect" "is_perfect" (defArgs s_is_perfect) (defBody s_is_perfect) (defScope s_is_perfect) .none kV_is_perfect dc_is_perfect pm_is_perfect an_is_perfect cd_is_perfect ct_is_perfect), sl_is_perfect⟩)
    (e_is_perfect : PySem.W.codeIn K cd_is_perfect "is_perfect" = true)
    (k_is_perfect : PySem.W.keepIn K (.ref f_is_perfect) = true)
    (a_mirrored : PySem.W.nsIn K mainGlobals "mirrored" = some (some (.ref f_mirrored)))
    (l_mirrored : K.lookup f_mirrored = some ⟨oc_mirrored, od_mirrored, .func (PySem.W.fnOf "mirrored" "mirrored" (defArgs s_mirrored) (defBody s_mirrored) (defScope s_mirrored) .none kV_mirrored dc_mirrored pm_mirrored an_mirrored cd_mirrored ct_mirrored), sl_mirrored⟩)
    (e_mirrored : PySem.W.codeIn K cd_mirrored "mirrored" = true)
    (k_mirrored : PySem.W.keepIn K (.ref f_mirrored) = true)
    (a_tune_cost : PySem.W.nsIn K mainGlobals "tune_cost" = some (some (.ref f_tune_cost)))
    (l_tune_cost : K.lookup f_tune_cost = some ⟨oc_tune_cost, od_tune_cost, .func (PySem.W.fnOf "tune_cost" "tune_cost" (defArgs s_tune_cost) (defBody s_tune_cost) (defScope s_tune_cost) .none kV_tune_cost dc_tune_cost pm_tune_cost an_tune_cost cd_tune_cost ct_tune_cost), sl_tune_cost⟩)
    (e_tune_cost : PySem.W.codeIn K cd_tune_cost "tune_cost" = true)
    (k_tune_cost : PySem.W.keepIn K (.ref f_tune_cost) = true)
    (a_runs_alike : PySem.W.nsIn K mainGlobals "runs_alike" = some (some (.ref f_runs_alike)))
    (l_runs_alike : K.lookup f_runs_alike = some ⟨oc_runs_alike, od_runs_alike, .func (PySem.W.fnOf "runs_alike" "runs_alike" (defArgs s_runs_alike) (defBody s_runs_alike) (defScope s_runs_alike) .none kV_runs_alike dc_runs_alike pm_runs_alike an_runs_alike cd_runs_alike ct_runs_alike), sl_runs_alike⟩)
    (e_runs_alike : PySem.W.codeIn K cd_runs_alike "runs_alike" = true)
    (k_runs_alike : PySem.W.keepIn K (.ref f_runs_alike) = true)
    (a_may_sound : PySem.W.nsIn K mainGlobals "may_sound" = some (some (.ref f_may_sound)))
    (l_may_sound : K.lookup f_may_sound = some ⟨oc_may_sound, od_may_sound, .func (PySem.W.fnOf "may_sound" "may_sound" (defArgs s_may_sound) (defBody s_may_sound) (defScope s_may_sound) .none kV_may_sound dc_may_sound pm_may_sound an_may_sound (.ref CG_may_sound) ct_may_sound), sl_may_sound⟩)
    (e_may_sound : PySem.W.codeIn K (.ref CG_may_sound) "may_sound" = true)
    (k_may_sound : PySem.W.keepIn K (.ref f_may_sound) = true)
    (p_may_sound : K.lookup CG_may_sound = some ⟨.type "code", od2_may_sound, .fields cv2_may_sound, sl2_may_sound⟩)
    (pv_may_sound : cv2_may_sound[11]? = some (.ref PG_may_sound))
    (o_may_sound : oneB [(Pt, (("law" : Str) ++ (".<locals>." : Str)) ++ "<lambda>"), (PG_may_sound, ("may_sound" : Str) ++ (".<locals>." : Str) ++ "<genexpr>")] PG_may_sound (("may_sound" : Str) ++ (".<locals>." : Str) ++ "<genexpr>") = true)
    (a_follows_at : PySem.W.nsIn K mainGlobals "follows_at" = some (some (.ref f_follows_at)))
    (l_follows_at : K.lookup f_follows_at = some ⟨oc_follows_at, od_follows_at, .func (PySem.W.fnOf "follows_at" "follows_at" (defArgs s_follows_at) (defBody s_follows_at) (defScope s_follows_at) .none kV_follows_at dc_follows_at pm_follows_at an_follows_at cd_follows_at ct_follows_at), sl_follows_at⟩)
    (e_follows_at : PySem.W.codeIn K cd_follows_at "follows_at" = true)
    (k_follows_at : PySem.W.keepIn K (.ref f_follows_at) = true)
    (a_mirror_follows : PySem.W.nsIn K mainGlobals "mirror_follows" = some (some (.ref f_mirror_follows)))
    (l_mirror_follows : K.lookup f_mirror_follows = some ⟨oc_mirror_follows, od_mirror_follows, .func (PySem.W.fnOf "mirror_follows" "mirror_follows" (defArgs s_mirror_follows) (defBody s_mirror_follows) (defScope s_mirror_follows) .none kV_mirror_follows dc_mirror_follows pm_mirror_follows an_mirror_follows cd_mirror_follows ct_mirror_follows), sl_mirror_follows⟩)
    (e_mirror_follows : PySem.W.codeIn K cd_mirror_follows "mirror_follows" = true)
    (k_mirror_follows : PySem.W.keepIn K (.ref f_mirror_follows) = true)
    (a_crab : PySem.W.nsIn K mainGlobals "crab" = some (some (.ref f_crab)))
    (l_crab : K.lookup f_crab = some ⟨oc_crab, od_crab, .func (PySem.W.fnOf "crab" "crab" (defArgs s_crab) (defBody s_crab) (defScope s_crab) .none kV_crab dc_crab pm_crab an_crab cd_crab ct_crab), sl_crab⟩)
    (e_crab : PySem.W.codeIn K cd_crab "crab" = true)
    (k_crab : PySem.W.keepIn K (.ref f_crab) = true)
    (a_round_may : PySem.W.nsIn K mainGlobals "round_may" = some (some (.ref f_round_may)))
    (l_round_may : K.lookup f_round_may = some ⟨oc_round_may, od_round_may, .func (PySem.W.fnOf "round_may" "round_may" (defArgs s_round_may) (defBody s_round_may) (defScope s_round_may) .none kV_round_may dc_round_may pm_round_may an_round_may cd_round_may ct_round_may), sl_round_may⟩)
    (e_round_may : PySem.W.codeIn K cd_round_may "round_may" = true)
    (k_round_may : PySem.W.keepIn K (.ref f_round_may) = true)
    (a_all_canons : PySem.W.nsIn K mainGlobals "all_canons" = some (some (.ref f_all_canons)))
    (l_all_canons : K.lookup f_all_canons = some ⟨oc_all_canons, od_all_canons, .func (PySem.W.fnOf "all_canons" "all_canons" (defArgs s_all_canons) (defBody s_all_canons) (defScope s_all_canons) .none kV_all_canons dc_all_canons pm_all_canons an_all_canons cd_all_canons ct_all_canons), sl_all_canons⟩)
    (e_all_canons : PySem.W.codeIn K cd_all_canons "all_canons" = true)
    (k_all_canons : PySem.W.keepIn K (.ref f_all_canons) = true)
    (a_all_mirrors : PySem.W.nsIn K mainGlobals "all_mirrors" = some (some (.ref f_all_mirrors)))
    (l_all_mirrors : K.lookup f_all_mirrors = some ⟨oc_all_mirrors, od_all_mirrors, .func (PySem.W.fnOf "all_mirrors" "all_mirrors" (defArgs s_all_mirrors) (defBody s_all_mirrors) (defScope s_all_mirrors) .none kV_all_mirrors dc_all_mirrors pm_all_mirrors an_all_mirrors cd_all_mirrors ct_all_mirrors), sl_all_mirrors⟩)
    (e_all_mirrors : PySem.W.codeIn K cd_all_mirrors "all_mirrors" = true)
    (k_all_mirrors : PySem.W.keepIn K (.ref f_all_mirrors) = true)
    (a__law_roll : PySem.W.nsIn K mainGlobals "_law_roll" = some (some (.ref f__law_roll)))
    (l__law_roll : K.lookup f__law_roll = some ⟨oc__law_roll, od__law_roll, .func (PySem.W.fnOf "_law_roll" "_law_roll" (defArgs s__law_roll) (defBody s__law_roll) (defScope s__law_roll) .none kV__law_roll dc__law_roll pm__law_roll an__law_roll cd__law_roll ct__law_roll), sl__law_roll⟩)
    (e__law_roll : PySem.W.codeIn K cd__law_roll "_law_roll" = true)
    (k__law_roll : PySem.W.keepIn K (.ref f__law_roll) = true)
    (a__law_rounds : PySem.W.nsIn K mainGlobals "_law_rounds" = some (some (.ref f__law_rounds)))
    (l__law_rounds : K.lookup f__law_rounds = some ⟨oc__law_rounds, od__law_rounds, .func (PySem.W.fnOf "_law_rounds" "_law_rounds" (defArgs s__law_rounds) (defBody s__law_rounds) (defScope s__law_rounds) .none kV__law_rounds dc__law_rounds pm__law_rounds an__law_rounds cd__law_rounds ct__law_rounds), sl__law_rounds⟩)
    (e__law_rounds : PySem.W.codeIn K cd__law_rounds "_law_rounds" = true)
    (k__law_rounds : PySem.W.keepIn K (.ref f__law_rounds) = true)
    (a__law_told : PySem.W.nsIn K mainGlobals "_law_told" = some (some (.ref f__law_told)))
    (l__law_told : K.lookup f__law_told = some ⟨oc__law_told, od__law_told, .func (PySem.W.fnOf "_law_told" "_law_told" (defArgs s__law_told) (defBody s__law_told) (defScope s__law_told) .none kV__law_told dc__law_told pm__law_told an__law_told cd__law_told ct__law_told), sl__law_told⟩)
    (e__law_told : PySem.W.codeIn K cd__law_told "_law_told" = true)
    (k__law_told : PySem.W.keepIn K (.ref f__law_told) = true)
    (a_law : PySem.W.nsIn K mainGlobals "law" = some (some (.ref f_law)))
    (l_law : K.lookup f_law = some ⟨oc_law, od_law, .func (PySem.W.fnOf "law" "law" (defArgs s_law) (defBody s_law) (defScope s_law) .none kV_law dc_law pm_law an_law (.ref C) ct_law), sl_law⟩)
    (e_law : PySem.W.codeIn K (.ref C) "law" = true)
    (k_law : PySem.W.keepIn K (.ref f_law) = true)
    (z_abs : PySem.W.nsIn K mainGlobals "abs" = some none)
    (z_any : PySem.W.nsIn K mainGlobals "any" = some none)
    (z_int : PySem.W.nsIn K mainGlobals "int" = some none)
    (z_len : PySem.W.nsIn K mainGlobals "len" = some none)
    (z_list : PySem.W.nsIn K mainGlobals "list" = some none)
    (z_range : PySem.W.nsIn K mainGlobals "range" = some none)
    (z_sum : PySem.W.nsIn K mainGlobals "sum" = some none)
    (z_tuple : PySem.W.nsIn K mainGlobals "tuple" = some none)
    (z_zip : PySem.W.nsIn K mainGlobals "zip" = some none)
    (a_MOST : PySem.W.nsIn K mainGlobals "MOST" = some (some (.int 120 u_MOST)))
    (a_PERFECT : PySem.W.nsIn K mainGlobals "PERFECT" = some (some (.ref u_PERFECT)))
    (l_PERFECT : K.lookup u_PERFECT = some ⟨.type "tuple", uo_PERFECT, .seq ui_PERFECT un_PERFECT, us_PERFECT⟩)
    (s_PERFECT : ui_PERFECT.size ≤ sizeLine)
    (v_PERFECT : Vals [V.int 0, V.int 7] ui_PERFECT.toList)
    (a_SOFT : PySem.W.nsIn K mainGlobals "SOFT" = some (some (.ref u_SOFT)))
    (l_SOFT : K.lookup u_SOFT = some ⟨.type "tuple", uo_SOFT, .seq ui_SOFT un_SOFT, us_SOFT⟩)
    (s_SOFT : ui_SOFT.size ≤ sizeLine)
    (v_SOFT : Vals [V.int 3, V.int 4, V.int 8, V.int 9] ui_SOFT.toList)
    (aX_BadNote : PySem.W.nsIn K mainGlobals "BadNote" = some (some (.ref C_BadNote)))
    (x_BadNote : PySem.W.excIn K C_BadNote [.type "ValueError", .type "Exception", .type "BaseException", .type "object"] "ValueError.__new__" = true)
    (kX_BadNote : PySem.W.keepIn K (.ref C_BadNote) = true)
    (bX_BadNote : PySem.W.subIn K (.ref C_BadNote) (.type "BaseException") = some true)
    (tX_BadNote : PySem.W.typeIn K (.ref C_BadNote) = some (.type "type"))
    (aX_BadTime : PySem.W.nsIn K mainGlobals "BadTime" = some (some (.ref C_BadTime)))
    (x_BadTime : PySem.W.excIn K C_BadTime [.type "ValueError", .type "Exception", .type "BaseException", .type "object"] "ValueError.__new__" = true)
    (kX_BadTime : PySem.W.keepIn K (.ref C_BadTime) = true)
    (bX_BadTime : PySem.W.subIn K (.ref C_BadTime) (.type "BaseException") = some true)
    (tX_BadTime : PySem.W.typeIn K (.ref C_BadTime) = some (.type "type"))
    (aX_BadLine : PySem.W.nsIn K mainGlobals "BadLine" = some (some (.ref C_BadLine)))
    (x_BadLine : PySem.W.excIn K C_BadLine [.type "ValueError", .type "Exception", .type "BaseException", .type "object"] "ValueError.__new__" = true)
    (kX_BadLine : PySem.W.keepIn K (.ref C_BadLine) = true)
    (bX_BadLine : PySem.W.subIn K (.ref C_BadLine) (.type "BaseException") = some true)
    (tX_BadLine : PySem.W.typeIn K (.ref C_BadLine) = some (.type "type"))
    (aX_NoLine : PySem.W.nsIn K mainGlobals "NoLine" = some (some (.ref C_NoLine)))
    (x_NoLine : PySem.W.excIn K C_NoLine [.type "ValueError", .type "Exception", .type "BaseException", .type "object"] "ValueError.__new__" = true)
    (kX_NoLine : PySem.W.keepIn K (.ref C_NoLine) = true)
    (bX_NoLine : PySem.W.subIn K (.ref C_NoLine) (.type "BaseException") = some true)
    (tX_NoLine : PySem.W.typeIn K (.ref C_NoLine) = some (.type "type"))
    (aX_BadPaper : PySem.W.nsIn K mainGlobals "BadPaper" = some (some (.ref C_BadPaper)))
    (x_BadPaper : PySem.W.excIn K C_BadPaper [.type "ValueError", .type "Exception", .type "BaseException", .type "object"] "ValueError.__new__" = true)
    (kX_BadPaper : PySem.W.keepIn K (.ref C_BadPaper) = true)
    (bX_BadPaper : PySem.W.subIn K (.ref C_BadPaper) (.type "BaseException") = some true)
    (tX_BadPaper : PySem.W.typeIn K (.ref C_BadPaper) = some (.type "type"))
    (aX_BadSize : PySem.W.nsIn K mainGlobals "BadSize" = some (some (.ref C_BadSize)))
    (x_BadSize : PySem.W.excIn K C_BadSize [.type "ValueError", .type "Exception", .type "BaseException", .type "object"] "ValueError.__new__" = true)
    (kX_BadSize : PySem.W.keepIn K (.ref C_BadSize) = true)
    (bX_BadSize : PySem.W.subIn K (.ref C_BadSize) (.type "BaseException") = some true)
    (tX_BadSize : PySem.W.typeIn K (.ref C_BadSize) = some (.type "type"))
    (aX_BadText : PySem.W.nsIn K mainGlobals "BadText" = some (some (.ref C_BadText)))
    (x_BadText : PySem.W.excIn K C_BadText [.type "ValueError", .type "Exception", .type "BaseException", .type "object"] "ValueError.__new__" = true)
    (kX_BadText : PySem.W.keepIn K (.ref C_BadText) = true)
    (bX_BadText : PySem.W.subIn K (.ref C_BadText) (.type "BaseException") = some true)
    (tX_BadText : PySem.W.typeIn K (.ref C_BadText) = some (.type "type"))
    (aX_BadStore : PySem.W.nsIn K mainGlobals "BadStore" = some (some (.ref C_BadStore)))
    (x_BadStore : PySem.W.excIn K C_BadStore [.type "ValueError", .type "Exception", .type "BaseException", .type "object"] "ValueError.__new__" = true)
    (kX_BadStore : PySem.W.keepIn K (.ref C_BadStore) = true)
    (bX_BadStore : PySem.W.subIn K (.ref C_BadStore) (.type "BaseException") = some true)
    (tX_BadStore : PySem.W.typeIn K (.ref C_BadStore) = some (.type "type"))
    (aX_NoSuch : PySem.W.nsIn K mainGlobals "NoSuch" = some (some (.ref C_NoSuch)))
    (x_NoSuch : PySem.W.excIn K C_NoSuch [.type "ValueError", .type "Exception", .type "BaseException", .type "object"] "ValueError.__new__" = true)
    (kX_NoSuch : PySem.W.keepIn K (.ref C_NoSuch) = true)
    (bX_NoSuch : PySem.W.subIn K (.ref C_NoSuch) (.type "BaseException") = some true)
    (tX_NoSuch : PySem.W.typeIn K (.ref C_NoSuch) = some (.type "type"))
    (pL : K.lookup C = some ⟨.type "code", odL, .fields cvL, slL⟩)
    (pvL : cvL[11]? = some (.ref Pt))
    (oL : oneB [(Pt, (("law" : Str) ++ (".<locals>." : Str)) ++ "<lambda>"), (PG_may_sound, ("may_sound" : Str) ++ (".<locals>." : Str) ++ "<genexpr>")] Pt ((("law" : Str) ++ (".<locals>." : Str)) ++ "<lambda>") = true)
    (exm : exmAll K (fun n => ([0, C_BadNote, C_BadTime, C_BadLine, C_NoLine, C_BadPaper, C_BadSize, C_BadText, C_BadStore, C_NoSuch] : List Addr).getD n 0) (NL.map (·.1)) = true) :
    ∃ fd : FuncData, (∀ (s : Shared) (v : Value), BindsTo s fd ⟨[v], []⟩ [("script", v)]) ∧ ∀ base : Heap, K.In base → base.Ns mainGlobals mg → (∀ p ∈ ([(C, Pt), (CG_may_sound, PG_may_sound)] : List (Addr × Addr)), LamX.TabB base mg p.1 p.2) → FnOk P w K mg base (L2.CX P w) 12 fa fd ["script"] (spLaw K [(Pt, (("law" : Str) ++ (".<locals>." : Str)) ++ "<lambda>"), (PG_may_sound, ("may_sound" : Str) ++ (".<locals>." : Str) ++ "<genexpr>")]) := by
  have e := hfa.symm.trans (PySem.W.mg_of X G a_law)
  cases e
  have Fn_check_note := fun_mk (st := s_check_note) l_check_note e_check_note k_check_note
  have bn_check_note := Fn_check_note.binds (ps := ["note"]) fun _ _ _ _ _ _ us hl => match us, hl with | [_], _ => rfl
  have Fn_size := fun_mk (st := s_size) l_size e_size k_size
  have bn_size := Fn_size.binds (ps := ["one", "other"]) fun _ _ _ _ _ _ us hl => match us, hl with | [_, _], _ => rfl
  have Fn_overlap := fun_mk (st := s_overlap) l_overlap e_overlap k_overlap
  have bn_overlap := Fn_overlap.binds (ps := ["tune", "other", "delay"]) fun _ _ _ _ _ _ us hl => match us, hl with | [_, _, _], _ => rfl
  have Fn_backwards := fun_mk (st := s_backwards) l_backwards e_backwards k_backwards
  have bn_backwards := Fn_backwards.binds (ps := ["tune"]) fun _ _ _ _ _ _ us hl => match us, hl with | [_], _ => rfl
  have Fn__law_dice := fun_mk (st := s__law_dice) l__law_dice e__law_dice k__law_dice
  have bn__law_dice := Fn__law_dice.binds (ps := ["cell"]) fun _ _ _ _ _ _ us hl => match us, hl with | [_], _ => rfl
  have Fn__law_sounds := fun_mk (st := s__law_sounds) l__law_sounds e__law_sounds k__law_sounds
  have bn__law_sounds := Fn__law_sounds.binds (ps := ["pairs"]) fun _ _ _ _ _ _ us hl => match us, hl with | [_], _ => rfl
  have Fn_turned := fun_mk (st := s_turned) l_turned e_turned k_turned
  have bn_turned := Fn_turned.binds (ps := ["note", "about"]) fun _ _ _ _ _ _ us hl => match us, hl with | [_, _], _ => rfl
  have Fn_simple := fun_mk (st := s_simple) l_simple e_simple k_simple
  have bn_simple := Fn_simple.binds (ps := ["one", "other"]) fun _ _ _ _ _ _ us hl => match us, hl with | [_, _], _ => rfl
  have Fn_move_cost := fun_mk (st := s_move_cost) l_move_cost e_move_cost k_move_cost
  have bn_move_cost := Fn_move_cost.binds (ps := ["one", "other"]) fun _ _ _ _ _ _ us hl => match us, hl with | [_, _], _ => rfl
  have Fn_goes_together := fun_mk (st := s_goes_together) l_goes_together e_goes_together k_goes_together
  have bn_goes_together := Fn_goes_together.binds (ps := ["low", "high"]) fun _ _ _ _ _ _ us hl => match us, hl with | [_, _], _ => rfl
  have Fn_is_perfect := fun_mk (st := s_is_perfect) l_is_perfect e_is_perfect k_is_perfect
  have bn_is_perfect := Fn_is_perfect.binds (ps := ["low", "high"]) fun _ _ _ _ _ _ us hl => match us, hl with | [_, _], _ => rfl
  have Fn_mirrored := fun_mk (st := s_mirrored) l_mirrored e_mirrored k_mirrored
  have bn_mirrored := Fn_mirrored.binds (ps := ["tune", "about"]) fun _ _ _ _ _ _ us hl => match us, hl with | [_, _], _ => rfl
  have Fn_tune_cost := fun_mk (st := s_tune_cost) l_tune_cost e_tune_cost k_tune_cost
  have bn_tune_cost := Fn_tune_cost.binds (ps := ["tune"]) fun _ _ _ _ _ _ us hl => match us, hl with | [_], _ => rfl
  have Fn_runs_alike := fun_mk (st := s_runs_alike) l_runs_alike e_runs_alike k_runs_alike
  have bn_runs_alike := Fn_runs_alike.binds (ps := ["low", "low_next", "high", "high_next"]) fun _ _ _ _ _ _ us hl => match us, hl with | [_, _, _, _], _ => rfl
  have Fn_may_sound := fun_mk (st := s_may_sound) l_may_sound e_may_sound k_may_sound
  have bn_may_sound := Fn_may_sound.binds (ps := ["pairs"]) fun _ _ _ _ _ _ us hl => match us, hl with | [_], _ => rfl
  have Fn_follows_at := fun_mk (st := s_follows_at) l_follows_at e_follows_at k_follows_at
  have bn_follows_at := Fn_follows_at.binds (ps := ["tune", "delay", "shift"]) fun _ _ _ _ _ _ us hl => match us, hl with | [_, _, _], _ => rfl
  have Fn_mirror_follows := fun_mk (st := s_mirror_follows) l_mirror_follows e_mirror_follows k_mirror_follows
  have bn_mirror_follows := Fn_mirror_follows.binds (ps := ["tune", "delay", "about"]) fun _ _ _ _ _ _ us hl => match us, hl with | [_, _, _], _ => rfl
  have Fn_crab := fun_mk (st := s_crab) l_crab e_crab k_crab
  have bn_crab := Fn_crab.binds (ps := ["tune"]) fun _ _ _ _ _ _ us hl => match us, hl with | [_], _ => rfl
  have Fn_round_may := fun_mk (st := s_round_may) l_round_may e_round_may k_round_may
  have bn_round_may := Fn_round_may.binds (ps := ["tune", "delay"]) fun _ _ _ _ _ _ us hl => match us, hl with | [_, _], _ => rfl
  have Fn_all_canons := fun_mk (st := s_all_canons) l_all_canons e_all_canons k_all_canons
  have bn_all_canons := Fn_all_canons.binds (ps := ["tune", "delays", "shifts"]) fun _ _ _ _ _ _ us hl => match us, hl with | [_, _, _], _ => rfl
  have Fn_all_mirrors := fun_mk (st := s_all_mirrors) l_all_mirrors e_all_mirrors k_all_mirrors
  have bn_all_mirrors := Fn_all_mirrors.binds (ps := ["tune", "delays", "abouts"]) fun _ _ _ _ _ _ us hl => match us, hl with | [_, _, _], _ => rfl
  have Fn__law_roll := fun_mk (st := s__law_roll) l__law_roll e__law_roll k__law_roll
  have bn__law_roll := Fn__law_roll.binds (ps := ["dice", "many"]) fun _ _ _ _ _ _ us hl => match us, hl with | [_, _], _ => rfl
  have Fn__law_rounds := fun_mk (st := s__law_rounds) l__law_rounds e__law_rounds k__law_rounds
  have bn__law_rounds := Fn__law_rounds.binds (ps := ["script", "most"]) fun _ _ _ _ _ _ us hl => match us, hl with | [_, _], _ => rfl
  have Fn__law_told := fun_mk (st := s__law_told) l__law_told e__law_told k__law_told
  have bn__law_told := Fn__law_told.binds (ps := ["what"]) fun _ _ _ _ _ _ us hl => match us, hl with | [_], _ => rfl
  have TT : TX K mg (fun n => ([0, C_BadNote, C_BadTime, C_BadLine, C_NoLine, C_BadPaper, C_BadSize, C_BadText, C_BadStore, C_NoSuch] : List Addr).getD n 0) := ⟨PySem.W.mg_none_of X G z_abs, PySem.W.mg_none_of X G z_any, PySem.W.mg_none_of X G z_int, PySem.W.mg_none_of X G z_len, PySem.W.mg_none_of X G z_list, PySem.W.mg_none_of X G z_range, PySem.W.mg_none_of X G z_sum, PySem.W.mg_none_of X G z_tuple, PySem.W.mg_none_of X G z_zip, const_val (v := V.int 120) X G a_MOST ⟨_, rfl⟩ (fun _ => .int _), const_tup X G a_PERFECT l_PERFECT s_PERFECT v_PERFECT (fun _ => RepL.ints [0, 7]), const_tup X G a_SOFT l_SOFT s_SOFT v_SOFT (fun _ => RepL.ints [3, 4, 8, 9]), ⟨PySem.W.mg_of X G aX_BadNote, x_BadNote, kX_BadNote, bX_BadNote, tX_BadNote⟩, ⟨PySem.W.mg_of X G aX_BadSize, x_BadSize, kX_BadSize, bX_BadSize, tX_BadSize⟩⟩
  refine ⟨PySem.W.fnOf "law" "law" (defArgs s_law) (defBody s_law) (defScope s_law) .none kV_law dc_law pm_law an_law (.ref C) ct_law, fun s v => .of_eq rfl, fun base _ _ tbs => ?_⟩
  have tb : LamX.TabB base mg C Pt := tbs (C, Pt) (by simp)
  have tb_may_sound : LamX.TabB base mg CG_may_sound PG_may_sound := tbs (CG_may_sound, PG_may_sound) (by simp)
  have d_check_note := fn_check_note (P := P) (w := w) (base := base) (TB := [(Pt, (("law" : Str) ++ (".<locals>." : Str)) ++ "<lambda>"), (PG_may_sound, ("may_sound" : Str) ++ (".<locals>." : Str) ++ "<genexpr>")]) TT  (FL.Fun.q Fn_check_note) (PySem.W.mg_of X G a_check_note) bn_check_note
  have d_size := fn_size (P := P) (w := w) (base := base) (TB := [(Pt, (("law" : Str) ++ (".<locals>." : Str)) ++ "<lambda>"), (PG_may_sound, ("may_sound" : Str) ++ (".<locals>." : Str) ++ "<genexpr>")]) TT  (FL.Fun.q Fn_size) (PySem.W.mg_of X G a_size) bn_size
  have d_overlap := fn_overlap (P := P) (w := w) (base := base) (TB := [(Pt, (("law" : Str) ++ (".<locals>." : Str)) ++ "<lambda>"), (PG_may_sound, ("may_sound" : Str) ++ (".<locals>." : Str) ++ "<genexpr>")]) TT  (FL.Fun.q Fn_overlap) (PySem.W.mg_of X G a_overlap) bn_overlap
  have d_backwards := fn_backwards (P := P) (w := w) (base := base) (TB := [(Pt, (("law" : Str) ++ (".<locals>." : Str)) ++ "<lambda>"), (PG_may_sound, ("may_sound" : Str) ++ (".<locals>." : Str) ++ "<genexpr>")]) TT  (FL.Fun.q Fn_backwards) (PySem.W.mg_of X G a_backwards) bn_backwards
  have d__law_dice := fn__law_dice (P := P) (w := w) (base := base) (TB := [(Pt, (("law" : Str) ++ (".<locals>." : Str)) ++ "<lambda>"), (PG_may_sound, ("may_sound" : Str) ++ (".<locals>." : Str) ++ "<genexpr>")]) TT  (FL.Fun.q Fn__law_dice) (PySem.W.mg_of X G a__law_dice) bn__law_dice
  have d__law_sounds := fn__law_sounds (P := P) (w := w) (base := base) (TB := [(Pt, (("law" : Str) ++ (".<locals>." : Str)) ++ "<lambda>"), (PG_may_sound, ("may_sound" : Str) ++ (".<locals>." : Str) ++ "<genexpr>")]) TT  (FL.Fun.q Fn__law_sounds) (PySem.W.mg_of X G a__law_sounds) bn__law_sounds
  have d_turned := fn_turned (P := P) (w := w) (base := base) (TB := [(Pt, (("law" : Str) ++ (".<locals>." : Str)) ++ "<lambda>"), (PG_may_sound, ("may_sound" : Str) ++ (".<locals>." : Str) ++ "<genexpr>")]) TT d_check_note (FL.Fun.q Fn_turned) (PySem.W.mg_of X G a_turned) bn_turned
  have d_simple := fn_simple (P := P) (w := w) (base := base) (TB := [(Pt, (("law" : Str) ++ (".<locals>." : Str)) ++ "<lambda>"), (PG_may_sound, ("may_sound" : Str) ++ (".<locals>." : Str) ++ "<genexpr>")]) TT d_size (FL.Fun.q Fn_simple) (PySem.W.mg_of X G a_simple) bn_simple
  have d_move_cost := fn_move_cost (P := P) (w := w) (base := base) (TB := [(Pt, (("law" : Str) ++ (".<locals>." : Str)) ++ "<lambda>"), (PG_may_sound, ("may_sound" : Str) ++ (".<locals>." : Str) ++ "<genexpr>")]) TT d_size (FL.Fun.q Fn_move_cost) (PySem.W.mg_of X G a_move_cost) bn_move_cost
  have d_goes_together := fn_goes_together (P := P) (w := w) (base := base) (TB := [(Pt, (("law" : Str) ++ (".<locals>." : Str)) ++ "<lambda>"), (PG_may_sound, ("may_sound" : Str) ++ (".<locals>." : Str) ++ "<genexpr>")]) TT d_simple (FL.Fun.q Fn_goes_together) (PySem.W.mg_of X G a_goes_together) bn_goes_together
  have d_is_perfect := fn_is_perfect (P := P) (w := w) (base := base) (TB := [(Pt, (("law" : Str) ++ (".<locals>." : Str)) ++ "<lambda>"), (PG_may_sound, ("may_sound" : Str) ++ (".<locals>." : Str) ++ "<genexpr>")]) TT d_simple (FL.Fun.q Fn_is_perfect) (PySem.W.mg_of X G a_is_perfect) bn_is_perfect
  have d_mirrored := fn_mirrored (P := P) (w := w) (base := base) (TB := [(Pt, (("law" : Str) ++ (".<locals>." : Str)) ++ "<lambda>"), (PG_may_sound, ("may_sound" : Str) ++ (".<locals>." : Str) ++ "<genexpr>")]) TT d_turned (FL.Fun.q Fn_mirrored) (PySem.W.mg_of X G a_mirrored) bn_mirrored
  have d_tune_cost := fn_tune_cost (P := P) (w := w) (base := base) (TB := [(Pt, (("law" : Str) ++ (".<locals>." : Str)) ++ "<lambda>"), (PG_may_sound, ("may_sound" : Str) ++ (".<locals>." : Str) ++ "<genexpr>")]) TT d_move_cost (FL.Fun.q Fn_tune_cost) (PySem.W.mg_of X G a_tune_cost) bn_tune_cost
  have d_runs_alike := fn_runs_alike (P := P) (w := w) (base := base) (TB := [(Pt, (("law" : Str) ++ (".<locals>." : Str)) ++ "<lambda>"), (PG_may_sound, ("may_sound" : Str) ++ (".<locals>." : Str) ++ "<genexpr>")]) TT d_is_perfect d_simple (FL.Fun.q Fn_runs_alike) (PySem.W.mg_of X G a_runs_alike) bn_runs_alike
  have d_may_sound := fn_may_sound (P := P) (w := w) (base := base) (TB := [(Pt, (("law" : Str) ++ (".<locals>." : Str)) ++ "<lambda>"), (PG_may_sound, ("may_sound" : Str) ++ (".<locals>." : Str) ++ "<genexpr>")]) TT d_goes_together d_runs_alike (by simp) o_may_sound tb_may_sound (funq_mk l_may_sound e_may_sound k_may_sound) (PySem.W.mg_of X G a_may_sound) bn_may_sound
  have d_follows_at := fn_follows_at (P := P) (w := w) (base := base) (TB := [(Pt, (("law" : Str) ++ (".<locals>." : Str)) ++ "<lambda>"), (PG_may_sound, ("may_sound" : Str) ++ (".<locals>." : Str) ++ "<genexpr>")]) TT d_may_sound d_overlap (FL.Fun.q Fn_follows_at) (PySem.W.mg_of X G a_follows_at) bn_follows_at
  have d_mirror_follows := fn_mirror_follows (P := P) (w := w) (base := base) (TB := [(Pt, (("law" : Str) ++ (".<locals>." : Str)) ++ "<lambda>"), (PG_may_sound, ("may_sound" : Str) ++ (".<locals>." : Str) ++ "<genexpr>")]) TT d_may_sound d_overlap (FL.Fun.q Fn_mirror_follows) (PySem.W.mg_of X G a_mirror_follows) bn_mirror_follows
  have d_crab := fn_crab (P := P) (w := w) (base := base) (TB := [(Pt, (("law" : Str) ++ (".<locals>." : Str)) ++ "<lambda>"), (PG_may_sound, ("may_sound" : Str) ++ (".<locals>." : Str) ++ "<genexpr>")]) TT d_backwards d_may_sound d_overlap (FL.Fun.q Fn_crab) (PySem.W.mg_of X G a_crab) bn_crab
  have d_round_may := fn_round_may (P := P) (w := w) (base := base) (TB := [(Pt, (("law" : Str) ++ (".<locals>." : Str)) ++ "<lambda>"), (PG_may_sound, ("may_sound" : Str) ++ (".<locals>." : Str) ++ "<genexpr>")]) TT d_may_sound (FL.Fun.q Fn_round_may) (PySem.W.mg_of X G a_round_may) bn_round_may
  have d_all_canons := fn_all_canons (P := P) (w := w) (base := base) (TB := [(Pt, (("law" : Str) ++ (".<locals>." : Str)) ++ "<lambda>"), (PG_may_sound, ("may_sound" : Str) ++ (".<locals>." : Str) ++ "<genexpr>")]) TT d_follows_at (FL.Fun.q Fn_all_canons) (PySem.W.mg_of X G a_all_canons) bn_all_canons
  have d_all_mirrors := fn_all_mirrors (P := P) (w := w) (base := base) (TB := [(Pt, (("law" : Str) ++ (".<locals>." : Str)) ++ "<lambda>"), (PG_may_sound, ("may_sound" : Str) ++ (".<locals>." : Str) ++ "<genexpr>")]) TT d_mirror_follows (FL.Fun.q Fn_all_mirrors) (PySem.W.mg_of X G a_all_mirrors) bn_all_mirrors
  have RD : RollD P w K mg base := ⟨_, _, PySem.W.mg_of X G a__law_roll, k__law_roll, bn__law_roll, ok_roll Fn__law_roll TT.b_int⟩
  have hR := ok_rounds (P := P) (w := w) (base := base) (T := [(Pt, (("law" : Str) ++ (".<locals>." : Str)) ++ "<lambda>"), (PG_may_sound, ("may_sound" : Str) ++ (".<locals>." : Str) ++ "<genexpr>")]) Fn__law_rounds sc__law_rounds rfl (.inl rfl) rfl (fs_rounds TT d__law_dice) finR
  have TD : ToldD P w K mg base (fun n => ([0, C_BadNote, C_BadTime, C_BadLine, C_NoLine, C_BadPaper, C_BadSize, C_BadText, C_BadStore, C_NoSuch] : List Addr).getD n 0) NL := ⟨⟨_, _, ["what"], _, _, _, _, _, _, _, _, _, _, _, _, _, _, _, _, _, PySem.W.mg_of X G a__law_told, k__law_told, l__law_told, e__law_told, bn__law_told, sc__law_told, rfl, .inl rfl, (.cons rfl (PySem.W.mg_of X G aX_BadNote) (by decide) (.cons rfl (PySem.W.mg_of X G aX_BadTime) (by decide) (.cons rfl (PySem.W.mg_of X G aX_BadLine) (by decide) (.cons rfl (PySem.W.mg_of X G aX_NoLine) (by decide) (.cons rfl (PySem.W.mg_of X G aX_BadPaper) (by decide) (.cons rfl (PySem.W.mg_of X G aX_BadSize) (by decide) (.cons rfl (PySem.W.mg_of X G aX_BadText) (by decide) (.cons rfl (PySem.W.mg_of X G aX_BadStore) (by decide) (.cons rfl (PySem.W.mg_of X G aX_NoSuch) (by decide) .nil))))))))), fun f => rfl⟩, exm_all exm⟩
  exact law_ok (i := 1) l_law e_law sc_law rfl (by decide) (by first | exact .inl rfl | exact .inr rfl) rfl (PySem.W.mg_of X G a__law_rounds) k__law_rounds bn__law_rounds (hR.mono (by decide)) rfl (T := [(Pt, (("law" : Str) ++ (".<locals>." : Str)) ++ "<lambda>"), (PG_may_sound, ("may_sound" : Str) ++ (".<locals>." : Str) ++ "<genexpr>")]) (fs_body TT d__law_sounds d_all_canons d_all_mirrors d_backwards d_crab d_follows_at d_may_sound d_mirrored d_overlap d_round_may d_tune_cost RD TD (by simp) oL tb) (fs_rest TT d__law_sounds d_all_canons d_all_mirrors d_backwards d_crab d_follows_at d_may_sound d_mirrored d_overlap d_round_may d_tune_cost RD TD (by simp) oL tb) fin
end V

open PySem PySem.W PyProof.Rows
set_option maxHeartbeats 0
open_top V.headK for PySem.Challenge.rw_voicewright_k07_tunes_that_follow_themse
set_option maxHeartbeats 0 in
theorem PySem.Challenge.cw_voicewright_k07_tunes_that_follow_themse_holds : PySem.Challenge.rw_voicewright_k07_tunes_that_follow_themse.Holds := by
  w_on; o_law; o_head (PySem.W.kmHook V.headK.heap_39 (FL.asOf V.headK.heap_39) (fun _ => by kernel_rfl) (FL.tabsN V.headK.heap_39 ["law", "may_sound"])); (case hw => w_witness2)
  k_fill
  refine' FL.walk_law (l := PySem.Challenge.rw_voicewright_k07_tunes_that_follow_themse) (n := 63) (k := 12) (x := "script") [(_, _), (_, _)] [(_, _), (_, _)] ?fTc rfl (by decide) rfl ⟨rfl, by decide, by decide⟩ (fun w h Y => PySem.W.km_in_of Y) ?fT ?fc ?fK ?fF
  case fF =>
    intro w mg fa h KX G hmg
    refine' V.all_mk KX G hmg ?a_check_note ?l_check_note ?e_check_note ?k_check_note ?a_size ?l_size ?e_size ?k_size ?a_overlap ?l_overlap ?e_overlap ?k_overlap ?a_backwards ?l_backwards ?e_backwards ?k_backwards ?a__law_dice ?l__law_dice ?e__law_dice ?k__law_dice ?a__law_sounds ?l__law_sounds ?e__law_sounds ?k__law_sounds ?a_turned ?l_turned ?e_turned ?k_turned ?a_simple ?l_simple ?e_simple ?k_simple ?a_move_cost ?l_move_cost ?e_move_cost ?k_move_cost ?a_goes_together ?l_goes_together ?e_goes_together ?k_goes_together ?a_is_perfect ?l_is_perfect ?e_is_perfect ?k_is_perfect ?a_mirrored ?l_mirrored ?e_mirrored ?k_mirrored ?a_tune_cost ?l_tune_cost ?e_tune_cost ?k_tune_cost ?a_runs_alike ?l_runs_alike ?e_runs_alike ?k_runs_alike ?a_may_sound ?l_may_sound ?e_may_sound ?k_may_sound ?p_may_sound ?pv_may_sound ?o_may_sound ?a_follows_at ?l_follows_at ?e_follows_at ?k_follows_at ?a_mirror_follows ?l_mirror_follows ?e_mirror_follows ?k_mirror_follows ?a_crab ?l_crab ?e_crab ?k_crab ?a_round_may ?l_round_may ?e_round_may ?k_round_may ?a_all_canons ?l_all_canons ?e_all_canons ?k_all_canons ?a_all_mirrors ?l_all_mirrors ?e_all_mirrors ?k_all_mirrors ?a__law_roll ?l__law_roll ?e__law_roll ?k__law_roll ?a__law_rounds ?l__law_rounds ?e__law_rounds ?k__law_rounds ?a__law_told ?l__law_told ?e__law_told ?k__law_told ?a_law ?l_law ?e_law ?k_law ?z_abs ?z_any ?z_int ?z_len ?z_list ?z_range ?z_sum ?z_tuple ?z_zip ?a_MOST ?a_PERFECT ?l_PERFECT ?s_PERFECT ?v_PERFECT ?a_SOFT ?l_SOFT ?s_SOFT ?v_SOFT ?aX_BadNote ?x_BadNote ?kX_BadNote ?bX_BadNote ?tX_BadNote ?aX_BadTime ?x_BadTime ?kX_BadTime ?bX_BadTime ?tX_BadTime ?aX_BadLine ?x_BadLine ?kX_BadLine ?bX_BadLine ?tX_BadLine ?aX_NoLine ?x_NoLine ?kX_NoLine ?bX_NoLine ?tX_NoLine ?aX_BadPaper ?x_BadPaper ?kX_BadPaper ?bX_BadPaper ?tX_BadPaper ?aX_BadSize ?x_BadSize ?kX_BadSize ?bX_BadSize ?tX_BadSize ?aX_BadText ?x_BadText ?kX_BadText ?bX_BadText ?tX_BadText ?aX_BadStore ?x_BadStore ?kX_BadStore ?bX_BadStore ?tX_BadStore ?aX_NoSuch ?x_NoSuch ?kX_NoSuch ?bX_NoSuch ?tX_NoSuch ?pL ?pvL ?oL ?exm
    (case a_check_note => k_is); (case l_check_note => k_is); (case e_check_note => k_is); (case k_check_note => k_is); (case a_size => k_is); (case l_size => k_is); (case e_size => k_is); (case k_size => k_is); (case a_overlap => k_is); (case l_overlap => k_is); (case e_overlap => k_is); (case k_overlap => k_is); (case a_backwards => k_is); (case l_backwards => k_is); (case e_backwards => k_is); (case k_backwards => k_is); (case a__law_dice => k_is); (case l__law_dice => k_is); (case e__law_dice => k_is); (case k__law_dice => k_is); (case a__law_sounds => k_is); (case l__law_sounds => k_is); (case e__law_sounds => k_is); (case k__law_sounds => k_is); (case a_turned => k_is); (case l_turned => k_is); (case e_turned => k_is); (case k_turned => k_is); (case a_simple => k_is); (case l_simple => k_is); (case e_simple => k_is); (case k_simple => k_is); (case a_move_cost => k_is); (case l_move_cost => k_is); (case e_move_cost => k_is); (case k_move_cost => k_is); (case a_goes_together => k_is); (case l_goes_together => k_is); (case e_goes_together => k_is); (case k_goes_together => k_is); (case a_is_perfect => k_is); (case l_is_perfect => k_is); (case e_is_perfect => k_is); (case k_is_perfect => k_is); (case a_mirrored => k_is); (case l_mirrored => k_is); (case e_mirrored => k_is); (case k_mirrored => k_is); (case a_tune_cost => k_is); (case l_tune_cost => k_is); (case e_tune_cost => k_is); (case k_tune_cost => k_is); (case a_runs_alike => k_is); (case l_runs_alike => k_is); (case e_runs_alike => k_is); (case k_runs_alike => k_is); (case a_may_sound => k_is); (case l_may_sound => k_is); (case e_may_sound => k_is); (case k_may_sound => k_is); (case p_may_sound => k_is); (case pv_may_sound => rfl); (case o_may_sound => first | rfl | kernel_rfl); (case a_follows_at => k_is); (case l_follows_at => k_is); (case e_follows_at => k_is); (case k_follows_at => k_is); (case a_mirror_follows => k_is); (case l_mirror_follows => k_is); (case e_mirror_follows => k_is); (case k_mirror_follows => k_is); (case a_crab => k_is); (case l_crab => k_is); (case e_crab => k_is); (case k_crab => k_is); (case a_round_may => k_is); (case l_round_may => k_is); (case e_round_may => k_is); (case k_round_may => k_is); (case a_all_canons => k_is); (case l_all_canons => k_is); (case e_all_canons => k_is); (case k_all_canons => k_is); (case a_all_mirrors => k_is); (case l_all_mirrors => k_is); (case e_all_mirrors => k_is); (case k_all_mirrors => k_is); (case a__law_roll => k_is); (case l__law_roll => k_is); (case e__law_roll => k_is); (case k__law_roll => k_is); (case a__law_rounds => k_is); (case l__law_rounds => k_is); (case e__law_rounds => k_is); (case k__law_rounds => k_is); (case a__law_told => k_is); (case l__law_told => k_is); (case e__law_told => k_is); (case k__law_told => k_is); (case a_law => k_is); (case l_law => k_is); (case e_law => k_is); (case k_law => k_is); (case z_abs => k_is); (case z_any => k_is); (case z_int => k_is); (case z_len => k_is); (case z_list => k_is); (case z_range => k_is); (case z_sum => k_is); (case z_tuple => k_is); (case z_zip => k_is); (case a_MOST => k_is); (case a_PERFECT => k_is); (case l_PERFECT => k_is); (case s_PERFECT => decide); (case v_PERFECT => exact (.cons ⟨_, rfl⟩ (.cons ⟨_, rfl⟩ .nil))); (case a_SOFT => k_is); (case l_SOFT => k_is); (case s_SOFT => decide); (case v_SOFT => exact (.cons ⟨_, rfl⟩ (.cons ⟨_, rfl⟩ (.cons ⟨_, rfl⟩ (.cons ⟨_, rfl⟩ .nil))))); (case aX_BadNote => k_is); (case x_BadNote => k_exc); (case kX_BadNote => k_is); (case bX_BadNote => k_is); (case tX_BadNote => k_is); (case aX_BadTime => k_is); (case x_BadTime => k_exc); (case kX_BadTime => k_is); (case bX_BadTime => k_is); (case tX_BadTime => k_is); (case aX_BadLine => k_is); (case x_BadLine => k_exc); (case kX_BadLine => k_is); (case bX_BadLine => k_is); (case tX_BadLine => k_is); (case aX_NoLine => k_is); (case x_NoLine => k_exc); (case kX_NoLine => k_is); (case bX_NoLine => k_is); (case tX_NoLine => k_is); (case aX_BadPaper => k_is); (case x_BadPaper => k_exc); (case kX_BadPaper => k_is); (case bX_BadPaper => k_is); (case tX_BadPaper => k_is); (case aX_BadSize => k_is); (case x_BadSize => k_exc); (case kX_BadSize => k_is); (case bX_BadSize => k_is); (case tX_BadSize => k_is); (case aX_BadText => k_is); (case x_BadText => k_exc); (case kX_BadText => k_is); (case bX_BadText => k_is); (case tX_BadText => k_is); (case aX_BadStore => k_is); (case x_BadStore => k_exc); (case kX_BadStore => k_is); (case bX_BadStore => k_is); (case tX_BadStore => k_is); (case aX_NoSuch => k_is); (case x_NoSuch => k_exc); (case kX_NoSuch => k_is); (case bX_NoSuch => k_is); (case tX_NoSuch => k_is); (case pL => k_is); (case pvL => rfl); (case oL => first | rfl | kernel_rfl); (case exm => first | rfl | kernel_rfl)
  case fTc => simp
  case fT => intro w h Y p hp; refine PySem.W.km_tabs_of Y _ ?_; simp only [List.mem_cons, List.not_mem_nil, or_false] at hp; (try rcases hp with rfl | rfl) <;> (subst_vars; decide +kernel)
  case fc => intro w p hp; simp only [List.mem_cons, List.not_mem_nil, or_false] at hp; (try rcases hp with rfl | rfl) <;> (subst_vars; first | rfl | kernel_rfl | k_is)
  case fK => intro w p hp; simp only [List.mem_cons, List.not_mem_nil, or_false] at hp; (try rcases hp with rfl | rfl) <;> (subst_vars; first | rfl | kernel_rfl | k_is)
