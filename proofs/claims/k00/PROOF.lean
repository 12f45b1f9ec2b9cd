import PyProof.Rows.All
import Wide.All
import OpenK.AllK
import Wide.FinOn
import HandS.ForMost
import HandS.IsInst
import HandS.EndBits
import HandS.ForExc
import HandS.ForSpec
import HandS.TupAny
import HandS.SortInts
import HandS.Rev
import HandS.ExcIs
import HandS.ExcInit
import HandS.ExcField
import HandS.More
import HandS.Text
import HandS.NoneIn
import HandS.CallSlots
import HandS.TupLen
import PySem.Challenge.RW_easelwork_k00_nearest_whole_numbers
set_option Elab.async false
set_option linter.all false
set_option maxRecDepth 100000
namespace DL
open PySem PySem.Spec L2

/-- data without addresses -/
inductive D where
  | non | bl (b : Bool) | int (i : Int) | str (x : Str) | tup (ds : List D) | lst (ds : List D) | rdl (ds : List D) | dct | dk (ks : List Key) (ds : List D) | dt (ks : List (List Key)) (ds : List D) | fn (x : Str) | rf (v : V)

mutual
inductive RepD (K : PySem.W.Frag) (F : Hp) : V → D → Prop
  | non : RepD K F .non .non
  | bl (b : Bool) : RepD K F (.bl b) (.bl b)
  | int (i : Int) : RepD K F (.int i) (.int i)
  | str (x : Str) : RepD K F (.str x) (.str x)
  | tup {a : Addr} {xs : List V} {ds : List D} : SqT K F a xs → RepL K F xs ds → RepD K F (.ref a) (.tup ds)
  | lst {a : Addr} {xs : List V} {ds : List D} : F a = some (.lst xs) → RepL K F xs ds → RepD K F (.ref a) (.lst ds)
  | rdl {a : Addr} {xs : List V} {ds : List D} : SqL K F a xs → RepL K F xs ds → RepD K F (.ref a) (.rdl ds)
  | dct {a : Addr} {kvs : List (Key × V)} : F a = some (.dK kvs) → RepD K F (.ref a) .dct
  | dk {a : Addr} {kvs : List (Key × V)} {ks : List Key} {ds : List D} : F a = some (.dK kvs) → kvs.map (·.1) = ks → RepL K F (kvs.map (·.2)) ds → RepD K F (.ref a) (.dk ks ds)
  | dt {a : Addr} {kvs : List (List Key × V)} {ks : List (List Key)} {ds : List D} : F a = some (.dT kvs) → kvs.map (·.1) = ks → RepL K F (kvs.map (·.2)) ds → RepD K F (.ref a) (.dt ks ds)
  | fn {a : Addr} {x : Str} : PySem.W.nsIn K mainGlobals x = some (some (.ref a)) → RepD K F (.ref a) (.fn x)
  | rf (v : V) : RepD K F v (.rf v)
inductive RepL (K : PySem.W.Frag) (F : Hp) : List V → List D → Prop
  | nil : RepL K F [] []
  | cons {v : V} {d : D} {vs : List V} {ds : List D} : RepD K F v d → RepL K F vs ds → RepL K F (v :: vs) (d :: ds)
end

theorem seqT {K : PySem.W.Frag} {H H' : Hp} {a : Addr} {xs : List V} (e : Same H H') (h : SqT K H a xs) : SqT K H' a xs := by
  rcases h with (h | ⟨o, h⟩) | h
  · exact .inl (.inl (e _ _ h))
  · exact .inl (.inr ⟨o, e _ _ h⟩)
  · exact .inr h

mutual
theorem RepD.mono {K : PySem.W.Frag} {F F' : Hp} (s : Same F F') : ∀ {v : V} {d : D}, RepD K F v d → RepD K F' v d
  | _, _, .non => .non
  | _, _, .bl b => .bl b
  | _, _, .int i => .int i
  | _, _, .str x => .str x
  | _, _, .tup h r => .tup (seqT s h) (RepL.mono s r)
  | _, _, .lst h r => .lst (s _ _ h) (RepL.mono s r)
  | _, _, .rdl h r => .rdl (s.seq h) (RepL.mono s r)
  | _, _, .dct h => .dct (s _ _ h)
  | _, _, .dk h e r => .dk (s _ _ h) e (RepL.mono s r)
  | _, _, .dt h e r => .dt (s _ _ h) e (RepL.mono s r)
  | _, _, .fn h => .fn h
  | _, _, .rf v => .rf v
theorem RepL.mono {K : PySem.W.Frag} {F F' : Hp} (s : Same F F') : ∀ {vs : List V} {ds : List D}, RepL K F vs ds → RepL K F' vs ds
  | _, _, .nil => .nil
  | _, _, .cons h r => .cons (RepD.mono s h) (RepL.mono s r)
end
section
variable {K : PySem.W.Frag} {F : Hp}
theorem RepL.length : ∀ {vs : List V} {ds : List D}, RepL K F vs ds → vs.length = ds.length
  | _, _, .nil => rfl
  | _, _, .cons _ r => congrArg (· + 1) (RepL.length r)
theorem RepL.get : ∀ {vs : List V} {ds : List D} {i : Nat} {d : D}, RepL K F vs ds → ds[i]? = some d → ∃ v, vs[i]? = some v ∧ RepD K F v d
  | _, _, i, d, .nil, h => by simp at h
  | _, _, 0, d, .cons h _, e => by
    simp at e; subst e; exact ⟨_, rfl, h⟩
  | _, _, i + 1, d, .cons _ r, e => by
    obtain ⟨v, a, b⟩ := RepL.get (i := i) r (by simpa using e)
    exact ⟨v, by simpa using a, b⟩
theorem RepL.getV : ∀ {vs : List V} {ds : List D} {i : Nat} {v : V}, RepL K F vs ds → vs[i]? = some v → ∃ d, ds[i]? = some d ∧ RepD K F v d
  | _, _, i, v, .nil, h => by simp at h
  | _, _, 0, v, .cons h _, e => by
    simp at e; subst e; exact ⟨_, rfl, h⟩
  | _, _, i + 1, v, .cons _ r, e => by
    obtain ⟨d, a, b⟩ := RepL.getV (i := i) r (by simpa using e)
    exact ⟨d, by simpa using a, b⟩
theorem RepL.append : ∀ {vs : List V} {ds : List D} {ws : List V} {es : List D}, RepL K F vs ds → RepL K F ws es → RepL K F (vs ++ ws) (ds ++ es)
  | _, _, _, _, .nil, s => s
  | _, _, _, _, .cons h r, s => .cons h (RepL.append r s)
theorem RepL.take : ∀ {vs : List V} {ds : List D} (n : Nat), RepL K F vs ds → RepL K F (vs.take n) (ds.take n)
  | _, _, 0, _ => .nil
  | _, _, _ + 1, .nil => .nil
  | _, _, n + 1, .cons h r => .cons h (RepL.take n r)
theorem RepL.drop : ∀ {vs : List V} {ds : List D} (n : Nat), RepL K F vs ds → RepL K F (vs.drop n) (ds.drop n)
  | _, _, 0, r => r
  | _, _, _ + 1, .nil => .nil
  | _, _, n + 1, .cons _ r => RepL.drop n r
theorem RepL.set {v : V} {d : D} (h : RepD K F v d) : ∀ {vs : List V} {ds : List D} (i : Nat), RepL K F vs ds → RepL K F (vs.set i v) (ds.set i d)
  | _, _, _, .nil => .nil
  | _, _, 0, .cons _ r => .cons h r
  | _, _, i + 1, .cons q r => .cons q (RepL.set h i r)
theorem RepL.dropLast : ∀ {vs : List V} {ds : List D}, RepL K F vs ds → RepL K F vs.dropLast ds.dropLast
  | _, _, .nil => .nil
  | _, _, .cons _ .nil => .nil
  | _, _, .cons h (.cons h2 r) => .cons h (RepL.dropLast (.cons h2 r))
theorem RepL.reverse : ∀ {vs : List V} {ds : List D}, RepL K F vs ds → RepL K F vs.reverse ds.reverse
  | _, _, .nil => .nil
  | _, _, .cons h r => by
    rw [List.reverse_cons, List.reverse_cons]
    exact RepL.append (RepL.reverse r) (.cons h .nil)
theorem RepL.ints : ∀ {vs : List V} {ns : List Int}, RepL K F vs (ns.map D.int) → vs = ns.map V.int := by
  intro vs ns
  induction ns generalizing vs with
  | nil => intro h; cases h; rfl
  | cons n r ih =>
    intro h
    cases h with
    | cons a b => cases a; rw [ih b]; rfl
theorem RepL.of_ints : ∀ (ns : List Int), RepL K F (ns.map V.int) (ns.map D.int)
  | [] => .nil
  | n :: r => .cons (.int n) (RepL.of_ints r)
end

/-! ### steps of the two heaps: F what is frozen, H all that is tracked -/
structure Ste (F H F' H' : Hp) : Prop where
  ff : Same F F'
  fh : Same F' H'
  old : ∀ b, H b ≠ none → F' b = F b
  hh : Same H H'
theorem Ste.refl {F H : Hp} (s : Same F H) : Ste F H F H := ⟨Same.refl F, s, fun _ _ => rfl, Same.refl H⟩
theorem Same.some {H H' : Hp} (s : Same H H') {b : Addr} (h : H b ≠ none) : H' b ≠ none := by
  cases q : H b with
  | none => exact absurd q h
  | some o => rw [s b o q]; exact fun z => by cases z
theorem Ste.trans {F H F1 H1 F2 H2 : Hp} (a : Ste F H F1 H1) (b : Ste F1 H1 F2 H2) : Ste F H F2 H2 :=
  ⟨a.ff.trans b.ff, b.fh, fun c h => (b.old c (Same.some a.hh h)).trans (a.old c h), a.hh.trans b.hh⟩
theorem same_upd {H : Hp} {p : Addr} {o : HO} (h : H p = none) : Same H (upd H p o) := fun b x e => by
  rw [upd_ne (ne_of_none e h)]; exact e
theorem same_upd2 {F H : Hp} {p : Addr} {o : HO} (s : Same F H) : Same (upd F p o) (upd H p o) := fun b x e => by
  by_cases hb : b = p
  · subst hb; rw [upd_same] at e ⊢; exact e
  · rw [upd_ne hb] at e ⊢; exact s b x e
theorem Same.noneF {F H : Hp} (s : Same F H) {p : Addr} (h : H p = none) : F p = none := s.free h
theorem Ste.laid {F H : Hp} {p : Addr} {o : HO} (s : Same F H) (h : H p = none) : Ste F H (upd F p o) (upd H p o) :=
  ⟨same_upd (s.free h), same_upd2 s, fun b hb => upd_ne (fun z => hb (z ▸ h)), same_upd h⟩
theorem Ste.loose {F H : Hp} {p : Addr} {o : HO} (s : Same F H) (h : H p = none) : Ste F H F (upd H p o) :=
  ⟨Same.refl F, s.trans (same_upd h), fun _ _ => rfl, same_upd h⟩

/-! ### dicts -/
def RepQ (K : PySem.W.Frag) (F : Hp) {κ : Type} : List (κ × V) → List (κ × D) → Prop
  | [], [] => True
  | (x, v) :: r, (y, d) :: s => x = y ∧ RepD K F v d ∧ RepQ K F r s
  | _, _ => False
theorem RepQ.mono {K : PySem.W.Frag} {F F' : Hp} (s : Same F F') {κ : Type} : ∀ {kvs : List (κ × V)} {qs : List (κ × D)}, RepQ K F kvs qs → RepQ K F' kvs qs
  | [], [], _ => trivial
  | (x, v) :: r, (y, d) :: t, h => ⟨h.1, h.2.1.mono s, RepQ.mono s h.2.2⟩
  | [], _ :: _, h => h.elim
  | _ :: _, [], h => h.elim
theorem RepQ.parts {K : PySem.W.Frag} {F : Hp} {κ : Type} : ∀ {kvs : List (κ × V)} {qs : List (κ × D)}, RepQ K F kvs qs → kvs.map (·.1) = qs.map (·.1) ∧ RepL K F (kvs.map (·.2)) (qs.map (·.2))
  | [], [], _ => ⟨rfl, .nil⟩
  | (x, v) :: r, (y, d) :: t, h => by
    obtain ⟨h1, h2, h3⟩ := h
    obtain ⟨a, b⟩ := RepQ.parts h3
    exact ⟨by simp [h1, a], .cons h2 b⟩
  | [], _ :: _, h => h.elim
  | _ :: _, [], h => h.elim
theorem RepQ.of {K : PySem.W.Frag} {F : Hp} {κ : Type} : ∀ {kvs : List (κ × V)} {qs : List (κ × D)}, kvs.map (·.1) = qs.map (·.1) → RepL K F (kvs.map (·.2)) (qs.map (·.2)) → RepQ K F kvs qs
  | [], [], _, _ => trivial
  | (x, v) :: r, (y, d) :: t, h1, h2 => by
    simp only [List.map_cons, List.cons.injEq] at h1
    cases h2 with
    | cons a b => exact ⟨h1.1, a, RepQ.of h1.2 b⟩
  | [], _ :: _, h, _ => by cases h
  | _ :: _, [], h, _ => by cases h
/-- what a name of one's own may hold besides lists -/
inductive OB where
  | dk (qs : List (Key × D)) | dt (qs : List (List Key × D))
def RepO (K : PySem.W.Frag) (F : Hp) : HO → OB → Prop
  | .dK kvs, .dk qs => RepQ K F kvs qs
  | .dT kvs, .dt qs => RepQ K F kvs qs
  | _, _ => False
theorem RepO.mono {K : PySem.W.Frag} {F F' : Hp} (s : Same F F') {o : HO} {b : OB} (h : RepO K F o b) : RepO K F' o b := by
  cases o <;> cases b <;> first | exact RepQ.mono s h | exact h.elim
def OB.frz : OB → D
  | .dk qs => .dk (qs.map (·.1)) (qs.map (·.2))
  | .dt qs => .dt (qs.map (·.1)) (qs.map (·.2))
theorem RepO.rep {K : PySem.W.Frag} {F F' : Hp} {o : HO} {b : OB} {a : Addr} (h : RepO K F o b) (s : Same F F') (e : F' a = some o) : RepD K F' (.ref a) b.frz := by
  cases o <;> cases b <;> first | exact h.elim | skip
  · exact .dk e (RepQ.parts h).1 ((RepQ.parts h).2.mono s)
  · exact .dt e (RepQ.parts h).1 ((RepQ.parts h).2.mono s)
/-! ### the frame's entries -/
inductive Ent where
  | un | dat (d : D) | own (ds : List D) | io (ds : List D) | xc | od (b : OB)
def Ent.mut : Ent → Bool
  | .own _ => true | .io _ => true | .od _ => true | _ => false
structure Ct where
  F0 : Hp
  H0 : Hp
  A : Option Addr
  xa : Option Addr
def EntOk (K : PySem.W.Frag) (C : Ct) (F H : Hp) (s : Option (Option V)) : Ent → Prop
  | .un => True
  | .xc => ∃ a, C.xa = some a ∧ s = some (some (.ref a))
  | .dat d => ∃ v, s = some (some v) ∧ RepD K F v d
  | .own ds => ∃ l vs, s = some (some (.ref l)) ∧ H l = some (.lst vs) ∧ F l = none ∧ RepL K F vs ds ∧ C.H0 l = none
  | .io ds => ∃ l vs, s = some (some (.ref l)) ∧ H l = some (.lst vs) ∧ F l = none ∧ RepL K F vs ds ∧ C.A = some l
  | .od b => ∃ l o, s = some (some (.ref l)) ∧ H l = some o ∧ F l = none ∧ RepO K F o b ∧ C.H0 l = none
structure Rep (K : PySem.W.Frag) (C : Ct) (F H : Hp) (σ : St) (ε : List Ent) : Prop where
  fh : Same F H
  ff : Same C.F0 F
  old : ∀ b, C.H0 b ≠ none → F b = C.F0 b
  keep : ∀ b o, C.H0 b = some o → C.A ≠ some b → H b = some o
  tr : ∀ b, C.H0 b ≠ none → H b ≠ none
  len : σ.length = ε.length
  ent : ∀ (i : Nat) (e : Ent), ε[i]? = some e → EntOk K C F H σ[i]? e
  dis : ∀ (i j : Nat) (l : Addr) (e e' : Ent), σ[i]? = some (some (.ref l)) → σ[j]? = some (some (.ref l)) → ε[i]? = some e → ε[j]? = some e' → e.mut = true → e'.mut = true → i = j

section
variable {K : PySem.W.Frag} {C : Ct} {F H F' H' : Hp} {σ : St} {ε : List Ent}
/-- what changes nothing that is known -/
theorem Rep.step (R : Rep K C F H σ ε) (s : Ste F H F' H') : Rep K C F' H' σ ε where
  fh := s.fh
  ff := R.ff.trans s.ff
  old := fun b h => (s.old b (R.tr b h)).trans (R.old b h)
  keep := fun b o h n => s.hh b o (R.keep b o h n)
  tr := fun b h => Same.some s.hh (R.tr b h)
  len := R.len
  ent := fun i e he => by
    have q := R.ent i e he
    cases e with
    | un => trivial
    | xc => exact q
    | dat d => obtain ⟨v, a, b⟩ := q; exact ⟨v, a, b.mono s.ff⟩
    | own ds =>
      obtain ⟨l, vs, a, b, c, d, e⟩ := q
      exact ⟨l, vs, a, s.hh _ _ b, (s.old l (by rw [b]; exact fun z => by cases z)).trans c, d.mono s.ff, e⟩
    | io ds =>
      obtain ⟨l, vs, a, b, c, d, e⟩ := q
      exact ⟨l, vs, a, s.hh _ _ b, (s.old l (by rw [b]; exact fun z => by cases z)).trans c, d.mono s.ff, e⟩
    | od ob =>
      obtain ⟨l, o, a, b, c, d, e⟩ := q
      exact ⟨l, o, a, s.hh _ _ b, (s.old l (by rw [b]; exact fun z => by cases z)).trans c, d.mono s.ff, e⟩
  dis := R.dis
/-- a name is given data -/
theorem Rep.set (R : Rep K C F H σ ε) (i : Nat) {v : V} {d : D} (h : RepD K F v d) : Rep K C F H (σ.set i (some v)) (ε.set i (.dat d)) where
  fh := R.fh
  ff := R.ff
  old := R.old
  keep := R.keep
  tr := R.tr
  len := by rw [List.length_set, List.length_set]; exact R.len
  ent := fun j e he => by
    by_cases hj : i = j
    · subst hj
      have hl : i < ε.length := by
        have := (List.getElem?_eq_some_iff.mp he).1
        rwa [List.length_set] at this
      rw [List.getElem?_set_self hl] at he
      cases he
      exact ⟨v, by rw [List.getElem?_set_self (by rw [R.len]; exact hl)], h⟩
    · rw [List.getElem?_set_ne hj] at he
      rw [List.getElem?_set_ne hj]
      exact R.ent j e he
  dis := fun a b l e e' h1 h2 h3 h4 h5 h6 => by
    by_cases ha : i = a
    · subst ha
      have hl : i < ε.length := by
        have := (List.getElem?_eq_some_iff.mp h3).1
        rwa [List.length_set] at this
      rw [List.getElem?_set_self hl] at h3
      cases h3
      cases h5
    · by_cases hb : i = b
      · subst hb
        have hl : i < ε.length := by
          have := (List.getElem?_eq_some_iff.mp h4).1
          rwa [List.length_set] at this
        rw [List.getElem?_set_self hl] at h4
        cases h4
        cases h6
      · rw [List.getElem?_set_ne ha] at h1 h3
        rw [List.getElem?_set_ne hb] at h2 h4
        exact R.dis a b l e e' h1 h2 h3 h4 h5 h6
/-- an address that no mutable name holds -/
def Apart (σ : St) (ε : List Ent) (l : Addr) : Prop := ∀ (j : Nat) (e : Ent), σ[j]? = some (some (.ref l)) → ε[j]? = some e → e.mut = false
/-- a name is given a new list of its own -/
theorem Rep.setO (R : Rep K C F H σ ε) (i : Nat) {l : Addr} {vs : List V} {ds : List D} (h1 : H l = some (.lst vs)) (h2 : F l = none) (h3 : RepL K F vs ds) (h4 : C.H0 l = none) (h5 : Apart σ ε l) :
    Rep K C F H (σ.set i (some (.ref l))) (ε.set i (.own ds)) where
  fh := R.fh
  ff := R.ff
  old := R.old
  keep := R.keep
  tr := R.tr
  len := by rw [List.length_set, List.length_set]; exact R.len
  ent := fun j e he => by
    by_cases hj : i = j
    · subst hj
      have hl : i < ε.length := by
        have := (List.getElem?_eq_some_iff.mp he).1
        rwa [List.length_set] at this
      rw [List.getElem?_set_self hl] at he
      cases he
      exact ⟨l, vs, by rw [List.getElem?_set_self (by rw [R.len]; exact hl)], h1, h2, h3, h4⟩
    · rw [List.getElem?_set_ne hj] at he
      rw [List.getElem?_set_ne hj]
      exact R.ent j e he
  dis := fun a b m e e' g1 g2 g3 g4 g5 g6 => by
    by_cases ha : i = a
    · by_cases hb : i = b
      · exact ha.symm.trans hb
      · exfalso
        subst ha
        have hl : i < ε.length := by
          have := (List.getElem?_eq_some_iff.mp g3).1
          rwa [List.length_set] at this
        rw [List.getElem?_set_self (by rw [R.len]; exact hl)] at g1
        rw [List.getElem?_set_ne hb] at g2 g4
        cases g1
        rw [h5 b e' g2 g4] at g6
        cases g6
    · by_cases hb : i = b
      · exfalso
        subst hb
        have hl : i < ε.length := by
          have := (List.getElem?_eq_some_iff.mp g4).1
          rwa [List.length_set] at this
        rw [List.getElem?_set_self (by rw [R.len]; exact hl)] at g2
        rw [List.getElem?_set_ne ha] at g1 g3
        cases g2
        rw [h5 a e g1 g3] at g5
        cases g5
      · rw [List.getElem?_set_ne ha] at g1 g3
        rw [List.getElem?_set_ne hb] at g2 g4
        exact R.dis a b m e e' g1 g2 g3 g4 g5 g6
/-- a name is given a new object of its own -/
theorem Rep.setB (R : Rep K C F H σ ε) (i : Nat) {l : Addr} {o : HO} {b : OB} (h1 : H l = some o) (h2 : F l = none) (h3 : RepO K F o b) (h4 : C.H0 l = none) (h5 : Apart σ ε l) :
    Rep K C F H (σ.set i (some (.ref l))) (ε.set i (.od b)) where
  fh := R.fh
  ff := R.ff
  old := R.old
  keep := R.keep
  tr := R.tr
  len := by rw [List.length_set, List.length_set]; exact R.len
  ent := fun j e he => by
    by_cases hj : i = j
    · subst hj
      have hl : i < ε.length := by
        have := (List.getElem?_eq_some_iff.mp he).1
        rwa [List.length_set] at this
      rw [List.getElem?_set_self hl] at he
      cases he
      exact ⟨l, o, by rw [List.getElem?_set_self (by rw [R.len]; exact hl)], h1, h2, h3, h4⟩
    · rw [List.getElem?_set_ne hj] at he
      rw [List.getElem?_set_ne hj]
      exact R.ent j e he
  dis := fun a c m e e' g1 g2 g3 g4 g5 g6 => by
    by_cases ha : i = a
    · by_cases hb : i = c
      · exact ha.symm.trans hb
      · exfalso
        subst ha
        have hl : i < ε.length := by
          have := (List.getElem?_eq_some_iff.mp g3).1
          rwa [List.length_set] at this
        rw [List.getElem?_set_self (by rw [R.len]; exact hl)] at g1
        rw [List.getElem?_set_ne hb] at g2 g4
        cases g1
        rw [h5 c e' g2 g4] at g6
        cases g6
    · by_cases hb : i = c
      · exfalso
        subst hb
        have hl : i < ε.length := by
          have := (List.getElem?_eq_some_iff.mp g4).1
          rwa [List.length_set] at this
        rw [List.getElem?_set_self (by rw [R.len]; exact hl)] at g2
        rw [List.getElem?_set_ne ha] at g1 g3
        cases g2
        rw [h5 a e g1 g3] at g5
        cases g5
      · rw [List.getElem?_set_ne ha] at g1 g3
        rw [List.getElem?_set_ne hb] at g2 g4
        exact R.dis a c m e e' g1 g2 g3 g4 g5 g6
/-- the frozen heap takes in an address that no mutable name holds -/
theorem Rep.freeze (R : Rep K C F H σ ε) {l : Addr} {o : HO} (h1 : H l = some o) (h2 : F l = none) (h4 : C.H0 l = none) (h5 : Apart σ ε l) : Rep K C (upd F l o) H σ ε where
  fh := fun b x e => by
    by_cases hb : b = l
    · subst hb; rw [upd_same] at e; cases e; exact h1
    · rw [upd_ne hb] at e; exact R.fh b x e
  ff := R.ff.trans (same_upd h2)
  old := fun b h => by
    rw [upd_ne (show b ≠ l from fun z => h (by rw [z]; exact h4))]
    exact R.old b h
  keep := R.keep
  tr := R.tr
  len := R.len
  ent := fun i e he => by
    have q := R.ent i e he
    have s : Same F (upd F l o) := same_upd h2
    cases e with
    | un => trivial
    | xc => exact q
    | dat d => obtain ⟨v, a, b⟩ := q; exact ⟨v, a, b.mono s⟩
    | own ds =>
      obtain ⟨m, vs, a, b, c, d, e⟩ := q
      have ne : m ≠ l := fun z => by
        have := h5 i _ (z ▸ a) he
        cases this
      exact ⟨m, vs, a, b, by rw [upd_ne ne]; exact c, d.mono s, e⟩
    | io ds =>
      obtain ⟨m, vs, a, b, c, d, e⟩ := q
      have ne : m ≠ l := fun z => by
        have := h5 i _ (z ▸ a) he
        cases this
      exact ⟨m, vs, a, b, by rw [upd_ne ne]; exact c, d.mono s, e⟩
    | od ob =>
      obtain ⟨m, o2, a, b, c, d, e⟩ := q
      have ne : m ≠ l := fun z => by
        have := h5 i _ (z ▸ a) he
        cases this
      exact ⟨m, o2, a, b, by rw [upd_ne ne]; exact c, d.mono s, e⟩
  dis := R.dis
/-- a name's entry is forgotten, or weakened -/
theorem Rep.weak (R : Rep K C F H σ ε) (i : Nat) : Rep K C F H σ (ε.set i .un) where
  fh := R.fh
  ff := R.ff
  old := R.old
  keep := R.keep
  tr := R.tr
  len := by rw [List.length_set]; exact R.len
  ent := fun j e he => by
    by_cases hj : i = j
    · subst hj
      have hl : i < ε.length := by
        have := (List.getElem?_eq_some_iff.mp he).1
        rwa [List.length_set] at this
      rw [List.getElem?_set_self hl] at he
      cases he
      trivial
    · rw [List.getElem?_set_ne hj] at he
      exact R.ent j e he
  dis := fun a b l e e' h1 h2 h3 h4 h5 h6 => by
    by_cases ha : i = a
    · subst ha
      have hl : i < ε.length := by
        have := (List.getElem?_eq_some_iff.mp h3).1
        rwa [List.length_set] at this
      rw [List.getElem?_set_self hl] at h3
      cases h3
      cases h5
    · by_cases hb : i = b
      · subst hb
        have hl : i < ε.length := by
          have := (List.getElem?_eq_some_iff.mp h4).1
          rwa [List.length_set] at this
        rw [List.getElem?_set_self hl] at h4
        cases h4
        cases h6
      · rw [List.getElem?_set_ne ha] at h3
        rw [List.getElem?_set_ne hb] at h4
        exact R.dis a b l e e' h1 h2 h3 h4 h5 h6
/-- a list of one's own is frozen where it stands -/
theorem Rep.freezeAt (R : Rep K C F H σ ε) {i : Nat} {ds : List D} (he : ε[i]? = some (.own ds)) :
    ∃ l vs, σ[i]? = some (some (.ref l)) ∧ F l = none ∧ RepL K F vs ds ∧ Rep K C (upd F l (.lst vs)) H σ (ε.set i (.dat (.lst ds))) := by
  obtain ⟨l, vs, a, b, c, d, e⟩ := R.ent i _ he
  have hl : i < ε.length := (List.getElem?_eq_some_iff.mp he).1
  have ap : Apart σ (ε.set i .un) l := fun j e' hj hj' => by
    by_cases hi : i = j
    · subst hi
      rw [List.getElem?_set_self hl] at hj'
      cases hj'
      rfl
    · rw [List.getElem?_set_ne hi] at hj'
      cases hm : e'.mut with
      | false => rfl
      | true => exact absurd (R.dis i j l _ e' a hj he hj' rfl hm) hi
  refine ⟨l, vs, a, c, d, ?_⟩
  have R1 := (R.weak i).freeze b c e ap
  have R2 := R1.set i (v := .ref l) (d := .lst ds) (.lst upd_same (d.mono (same_upd c)))
  have e1 : (ε.set i .un).set i (.dat (.lst ds)) = ε.set i (.dat (.lst ds)) := by rw [List.set_set]
  have e2 : σ.set i (some (.ref l)) = σ := by
    apply List.ext_getElem?
    intro j
    by_cases hj : i = j
    · subst hj
      rw [List.getElem?_set_self (by rw [R.len]; exact hl), a]
    · rw [List.getElem?_set_ne hj]
  rw [e1, e2] at R2
  exact R2
/-- an object of one's own is frozen where it stands -/
theorem Rep.freezeB (R : Rep K C F H σ ε) {i : Nat} {ob : OB} (he : ε[i]? = some (.od ob)) :
    ∃ l o, σ[i]? = some (some (.ref l)) ∧ F l = none ∧ RepO K F o ob ∧ Rep K C (upd F l o) H σ (ε.set i (.dat ob.frz)) := by
  obtain ⟨l, o, a, b, c, d, e⟩ := R.ent i _ he
  have hl : i < ε.length := (List.getElem?_eq_some_iff.mp he).1
  have ap : Apart σ (ε.set i .un) l := fun j e' hj hj' => by
    by_cases hi : i = j
    · subst hi
      rw [List.getElem?_set_self hl] at hj'
      cases hj'
      rfl
    · rw [List.getElem?_set_ne hi] at hj'
      cases hm : e'.mut with
      | false => rfl
      | true => exact absurd (R.dis i j l _ e' a hj he hj' rfl hm) hi
  refine ⟨l, o, a, c, d, ?_⟩
  have R1 := (R.weak i).freeze b c e ap
  have R2 := R1.set i (v := .ref l) (d := ob.frz) (d.rep (same_upd c) upd_same)
  have e1 : (ε.set i .un).set i (.dat ob.frz) = ε.set i (.dat ob.frz) := by rw [List.set_set]
  have e2 : σ.set i (some (.ref l)) = σ := by
    apply List.ext_getElem?
    intro j
    by_cases hj : i = j
    · subst hj
      rw [List.getElem?_set_self (by rw [R.len]; exact hl), a]
    · rw [List.getElem?_set_ne hj]
  rw [e1, e2] at R2
  exact R2
/-- a mutable list changes -/
theorem Rep.change (R : Rep K C F H σ ε) {i : Nat} {e : Ent} {l : Addr} {vs : List V} {ds : List D} (he : ε[i]? = some e) (hm : e.mut = true) (a : σ[i]? = some (some (.ref l))) (hr : RepL K F vs ds)
    {e' : Ent} (hk : (∃ z, e = .own z ∧ e' = .own ds) ∨ ∃ z, e = .io z ∧ e' = .io ds) : Rep K C F (upd H l (.lst vs)) σ (ε.set i e') := by
  have hl : i < ε.length := (List.getElem?_eq_some_iff.mp he).1
  have fl : F l = none := by
    have q := R.ent i e he
    rcases hk with ⟨z, rfl, _⟩ | ⟨z, rfl, _⟩
    · obtain ⟨m, _, a', _, c, _⟩ := q
      rw [a] at a'; cases a'; exact c
    · obtain ⟨m, _, a', _, c, _⟩ := q
      rw [a] at a'; cases a'; exact c
  refine ⟨fun b x q => ?_, R.ff, R.old, fun b o q n => ?_, fun b q => ?_, by rw [List.length_set]; exact R.len, fun j e2 h2 => ?_, fun p q m x y h1 h2 h3 h4 h5 h6 => ?_⟩
  · rw [upd_ne (fun z => by rw [z, fl] at q; cases q)]
    exact R.fh b x q
  · have ne : b ≠ l := by
      rintro rfl
      have q2 := R.ent i e he
      rcases hk with ⟨z, rfl, _⟩ | ⟨z, rfl, _⟩
      · obtain ⟨m, _, a', _, c, _, g⟩ := q2
        rw [a] at a'; cases a'; rw [q] at g; cases g
      · obtain ⟨m, _, a', _, c, _, g⟩ := q2
        rw [a] at a'; cases a'; exact n g
    rw [upd_ne ne]
    exact R.keep b o q n
  · by_cases hb : b = l
    · subst hb; rw [upd_same]; exact fun z => by cases z
    · rw [upd_ne hb]; exact R.tr b q
  · by_cases hj : i = j
    · subst hj
      rw [List.getElem?_set_self hl] at h2
      cases h2
      have q2 := R.ent i e he
      rcases hk with ⟨z, rfl, rfl⟩ | ⟨z, rfl, rfl⟩
      · obtain ⟨m, _, a', _, c, _, g⟩ := q2
        rw [a] at a'; cases a'
        exact ⟨l, vs, a, upd_same, c, hr, g⟩
      · obtain ⟨m, _, a', _, c, _, g⟩ := q2
        rw [a] at a'; cases a'
        exact ⟨l, vs, a, upd_same, c, hr, g⟩
    · rw [List.getElem?_set_ne hj] at h2
      have q2 := R.ent j e2 h2
      cases e2 with
      | un => trivial
      | xc => exact q2
      | dat d => exact q2
      | own zs =>
        obtain ⟨m, ws, a', b', c', d', g'⟩ := q2
        have ne : m ≠ l := fun z => hj (R.dis i j l e _ a (z ▸ a') he h2 hm rfl)
        exact ⟨m, ws, a', by rw [upd_ne ne]; exact b', c', d', g'⟩
      | io zs =>
        obtain ⟨m, ws, a', b', c', d', g'⟩ := q2
        have ne : m ≠ l := fun z => hj (R.dis i j l e _ a (z ▸ a') he h2 hm rfl)
        exact ⟨m, ws, a', by rw [upd_ne ne]; exact b', c', d', g'⟩
      | od ob =>
        obtain ⟨m, ws, a', b', c', d', g'⟩ := q2
        have ne : m ≠ l := fun z => hj (R.dis i j l e _ a (z ▸ a') he h2 hm rfl)
        exact ⟨m, ws, a', by rw [upd_ne ne]; exact b', c', d', g'⟩
  · have key : ∀ (j : Nat) (x : Ent), (ε.set i e')[j]? = some x → x.mut = true → ∃ y, ε[j]? = some y ∧ y.mut = true := fun j x hx hx' => by
      by_cases hj : i = j
      · subst hj; exact ⟨e, he, hm⟩
      · rw [List.getElem?_set_ne hj] at hx; exact ⟨x, hx, hx'⟩
    obtain ⟨x1, k1, k2⟩ := key p x h3 h5
    obtain ⟨x2, k3, k4⟩ := key q y h4 h6
    exact R.dis p q m x1 x2 h1 h2 k1 k3 k2 k4
/-- an object of one's own changes -/
theorem Rep.changeB (R : Rep K C F H σ ε) {i : Nat} {e : Ent} {l : Addr} {o : HO} {b0 b1 : OB} (he : ε[i]? = some e) (hm : e.mut = true) (a : σ[i]? = some (some (.ref l))) (hr : RepO K F o b1)
    {e' : Ent} (hk : e = .od b0 ∧ e' = .od b1) : Rep K C F (upd H l o) σ (ε.set i e') := by
  have hl : i < ε.length := (List.getElem?_eq_some_iff.mp he).1
  have fl : F l = none := by
    have q := R.ent i e he
    obtain ⟨rfl, _⟩ := hk
    obtain ⟨m, _, a', _, c, _⟩ := q
    rw [a] at a'; cases a'; exact c
  refine ⟨fun b x q => ?_, R.ff, R.old, fun b o2 q n => ?_, fun b q => ?_, by rw [List.length_set]; exact R.len, fun j e2 h2 => ?_, fun p q m x y h1 h2 h3 h4 h5 h6 => ?_⟩
  · rw [upd_ne (fun z => by rw [z, fl] at q; cases q)]
    exact R.fh b x q
  · have ne : b ≠ l := by
      rintro rfl
      have q2 := R.ent i e he
      obtain ⟨rfl, _⟩ := hk
      obtain ⟨m, _, a', _, c, _, g⟩ := q2
      rw [a] at a'; cases a'; rw [q] at g; cases g
    rw [upd_ne ne]
    exact R.keep b o2 q n
  · by_cases hb : b = l
    · subst hb; rw [upd_same]; exact fun z => by cases z
    · rw [upd_ne hb]; exact R.tr b q
  · by_cases hj : i = j
    · subst hj
      rw [List.getElem?_set_self hl] at h2
      cases h2
      have q2 := R.ent i e he
      obtain ⟨rfl, rfl⟩ := hk
      obtain ⟨m, _, a', _, c, _, g⟩ := q2
      rw [a] at a'; cases a'
      exact ⟨l, o, a, upd_same, c, hr, g⟩
    · rw [List.getElem?_set_ne hj] at h2
      have q2 := R.ent j e2 h2
      cases e2 with
      | un => trivial
      | xc => exact q2
      | dat d => exact q2
      | own zs =>
        obtain ⟨m, ws, a', b', c', d', g'⟩ := q2
        have ne : m ≠ l := fun z => hj (R.dis i j l e _ a (z ▸ a') he h2 hm rfl)
        exact ⟨m, ws, a', by rw [upd_ne ne]; exact b', c', d', g'⟩
      | io zs =>
        obtain ⟨m, ws, a', b', c', d', g'⟩ := q2
        have ne : m ≠ l := fun z => hj (R.dis i j l e _ a (z ▸ a') he h2 hm rfl)
        exact ⟨m, ws, a', by rw [upd_ne ne]; exact b', c', d', g'⟩
      | od ob =>
        obtain ⟨m, ws, a', b', c', d', g'⟩ := q2
        have ne : m ≠ l := fun z => hj (R.dis i j l e _ a (z ▸ a') he h2 hm rfl)
        exact ⟨m, ws, a', by rw [upd_ne ne]; exact b', c', d', g'⟩
  · have key : ∀ (j : Nat) (x : Ent), (ε.set i e')[j]? = some x → x.mut = true → ∃ y, ε[j]? = some y ∧ y.mut = true := fun j x hx hx' => by
      by_cases hj : i = j
      · subst hj; exact ⟨e, he, hm⟩
      · rw [List.getElem?_set_ne hj] at hx; exact ⟨x, hx, hx'⟩
    obtain ⟨x1, k1, k2⟩ := key p x h3 h5
    obtain ⟨x2, k3, k4⟩ := key q y h4 h6
    exact R.dis p q m x1 x2 h1 h2 k1 k3 k2 k4
end
end DL

set_option Elab.async false
set_option linter.all false
set_option maxRecDepth 100000
namespace DL
open PySem PySem.Spec L2

/-! ### results -/
structure Xn where
  cls : String
  fs : List (Str × D)
inductive Res (α : Type) where
  | ok (a : α) (ε : List Ent)
  | ex (x : Xn) (ε : List Ent)
abbrev Mo (α : Type) := List Ent → Option (Res α)
def bnd {α β : Type} (f : Mo α) (g : α → Mo β) : Mo β := fun ε => match f ε with
  | some (.ok a ε') => g a ε'
  | some (.ex x ε') => some (.ex x ε')
  | none => none
def pur {α : Type} (a : α) : Mo α := fun ε => some (.ok a ε)
def lft {α : Type} (o : Option α) : Mo α := fun ε => match o with
  | some a => some (.ok a ε)
  | none => none
def Good {α : Type} (r : Option (Res α)) (p : α → List Ent → Prop) (q : Xn → List Ent → Prop) : Prop := match r with
  | some (.ok a ε) => p a ε
  | some (.ex x ε) => q x ε
  | none => False
theorem Good.imp {α : Type} {r : Option (Res α)} {p p' : α → List Ent → Prop} {q q' : Xn → List Ent → Prop} (h : Good r p q) (hp : ∀ a e, p a e → p' a e) (hq : ∀ x e, q x e → q' x e) : Good r p' q' := by
  cases r with
  | none => exact h
  | some r => cases r with
    | ok a e => exact hp a e h
    | ex x e => exact hq x e h
theorem Good.bind {α β : Type} {f : Mo α} {g : α → Mo β} {ε : List Ent} {p : β → List Ent → Prop} {q : Xn → List Ent → Prop} (h : Good (bnd f g ε) p q) : Good (f ε) (fun a ε' => Good (g a ε') p q) q := by
  unfold bnd at h
  cases e : f ε with
  | none => rw [e] at h; exact h
  | some r =>
    rw [e] at h
    cases r with
    | ok a e => exact h
    | ex x e => exact h

/-- the fields of an exception -/
def RepF (K : PySem.W.Frag) (F : Hp) : List (Str × V) → List (Str × D) → Prop
  | [], [] => True
  | (x, v) :: r, (y, d) :: s => x = y ∧ RepD K F v d ∧ RepF K F r s
  | _, _ => False
structure RepX (K : PySem.W.Frag) (F H : Hp) (x : Xn) (c : Value) (od : Option Addr) : Prop where
  cls : ∃ a, c = .ref a ∧ PySem.W.nsIn K mainGlobals (Str.ofString x.cls) = some (some (.ref a))
  fs : (od = none ∧ x.fs = []) ∨ ∃ d vs, od = some d ∧ H d = some (.xd vs) ∧ RepF K F vs x.fs

/-- what an expression does to the heaps: what no mutable name holds stays -/
structure Stp (σ : St) (ε ε' : List Ent) (F H F' H' : Hp) : Prop where
  ff : Same F F'
  hh : ∀ b o, H b = some o → Apart σ ε b → H' b = some o
  old : ∀ b, H b ≠ none → Apart σ ε b → F' b = F b
  ap : ∀ b, Apart σ ε b → Apart σ ε' b
  tr : ∀ b, H b ≠ none → H' b ≠ none
section
variable {σ : St} {ε ε1 ε2 : List Ent} {F H F1 H1 F2 H2 : Hp}
theorem Stp.refl : Stp σ ε ε F H F H := ⟨Same.refl F, fun _ _ h _ => h, fun _ _ _ => rfl, fun _ h => h, fun _ h => h⟩
theorem Stp.trans (a : Stp σ ε ε1 F H F1 H1) (b : Stp σ ε1 ε2 F1 H1 F2 H2) : Stp σ ε ε2 F H F2 H2 :=
  ⟨a.ff.trans b.ff, fun c o h p => b.hh c o (a.hh c o h p) (a.ap c p), fun c h p => by
    cases q : H c with
    | none => exact absurd q h
    | some o => exact (b.old c (by rw [a.hh c o q p]; exact fun z => by cases z) (a.ap c p)).trans (a.old c h p), fun c p => b.ap c (a.ap c p), fun c h => b.tr c (a.tr c h)⟩
theorem Ste.stp (s : Ste F H F1 H1) : Stp σ ε ε F H F1 H1 := ⟨s.ff, fun b o h _ => s.hh b o h, fun b h _ => s.old b h, fun _ h => h, fun _ h => Same.some s.hh h⟩
end
section
variable (K : PySem.W.Frag) (C : Ct) (W : WX)
def OkE (F H : Hp) (σ : St) (ε : List Ent) (Q : VK) : D → List Ent → Prop := fun d ε' => ∀ v F' H', Rep K C F' H' σ ε' → Stp σ ε ε' F H F' H' → RepD K F' v d → Q v H'
def ExP (F H : Hp) (σ : St) (ε : List Ent) : Xn → List Ent → Prop := fun x ε' => ∀ c od F' H', Rep K C F' H' σ ε' → Stp σ ε ε' F H F' H' → RepX K F' H' x c od → W c od σ H'
def OkA (F H : Hp) (σ : St) (ε : List Ent) (Q : List V → Hp → Prop) : List D → List Ent → Prop := fun ds ε' => ∀ vs F' H', Rep K C F' H' σ ε' → Stp σ ε ε' F H F' H' → RepL K F' vs ds → Q vs H'
def OkB (F H : Hp) (σ : St) (ε : List Ent) (Q : Bool → Hp → Prop) : Bool → List Ent → Prop := fun b ε' => ∀ F' H', Rep K C F' H' σ ε' → Stp σ ε ε' F H F' H' → Q b H'
def SdE (te : TE) (f : Mo D) : Prop := ∀ F H σ ε Q, Rep K C F H σ ε → Good (f ε) (OkE K C F H σ ε Q) (ExP K C W F H σ ε) → te σ H Q
def SdT (te : TT) (f : Mo Bool) : Prop := ∀ F H σ ε Q, Rep K C F H σ ε → Good (f ε) (OkB K C F H σ ε Q) (ExP K C W F H σ ε) → te σ H Q
def SdA (ta : TA) (f : Mo (List D)) : Prop := ∀ F H σ ε Q, Rep K C F H σ ε → Good (f ε) (OkA K C F H σ ε Q) (ExP K C W F H σ ε) → ta σ H Q
end
theorem ExP.imp {K : PySem.W.Frag} {C : Ct} {W : WX} {F H F' H' : Hp} {σ : St} {ε ε' : List Ent} (s : Stp σ ε ε' F H F' H') {x : Xn} {e : List Ent} (h : ExP K C W F H σ ε x e) : ExP K C W F' H' σ ε' x e :=
  fun c od F2 H2 R s2 r => h c od F2 H2 R (s.trans s2) r

def EvD (X : Cx) (C : Ct) (W : WX) (e : Expr) (f : Mo D) : Prop := ∃ te, PE X e te ∧ SdE X.K C W te f
def TeD (X : Cx) (C : Ct) (W : WX) (e : Expr) (f : Mo Bool) : Prop := ∃ te, PT X e te ∧ SdT X.K C W te f
def TwD (X : Cx) (C : Ct) (W : WX) (e : Expr) (f : Mo Bool) : Prop := ∃ te, PW X e te ∧ SdT X.K C W te f
def EaD (X : Cx) (C : Ct) (W : WX) (es : List Expr) (f : Mo (List D)) : Prop := ∃ te, PA X es te ∧ SdA X.K C W te f

section
variable {X : Cx} {C : Ct} {W : WX} {a b e : Expr} {pos : Pos} {f g : Mo D}

/-! ### names, constants -/
def mVar (i : Nat) : Mo D := fun ε => match ε[i]? with
  | some (.dat d) => some (.ok d ε)
  | some (.own ds) => some (.ok (.lst ds) (ε.set i (.dat (.lst ds))))
  | some (.od b) => some (.ok b.frz (ε.set i (.dat b.frz)))
  | _ => none
theorem ev_var {e : Expr} (i : Nat) (h : PE X e (tVar i)) : EvD X C W e (mVar i) := by
  refine ⟨_, h, fun F H σ ε Q R q => ?_⟩
  unfold mVar at q
  cases he : ε[i]? with
  | none => rw [he] at q; exact q.elim
  | some z =>
    rw [he] at q
    cases z with
    | un => exact q.elim
    | io ds => exact q.elim
    | xc => exact q.elim
    | dat d =>
      obtain ⟨v, h1, h2⟩ := R.ent i _ he
      exact ⟨v, h1, q v F H R Stp.refl h2⟩
    | own ds =>
      obtain ⟨l, vs, h1, h2, h3, R'⟩ := R.freezeAt he
      have st : Stp σ ε (ε.set i (.dat (.lst ds))) F H (upd F l (.lst vs)) H := ⟨same_upd h2, fun _ _ h _ => h, fun b _ p => upd_ne (fun z => by
          have := p i _ (by rw [z]; exact h1) he
          cases this), fun b p j e hj hj' => by
        by_cases hij : i = j
        · subst hij
          rw [List.getElem?_set_self (List.getElem?_eq_some_iff.mp he).1] at hj'
          cases hj'; rfl
        · rw [List.getElem?_set_ne hij] at hj'
          exact p j e hj hj', fun _ h => h⟩
      exact ⟨.ref l, h1, q _ _ H R' st (.lst upd_same (h3.mono (same_upd h2)))⟩
    | od ob =>
      obtain ⟨l, o, h1, h2, h3, R'⟩ := R.freezeB he
      have st : Stp σ ε (ε.set i (.dat ob.frz)) F H (upd F l o) H := ⟨same_upd h2, fun _ _ h _ => h, fun b _ p => upd_ne (fun z => by
          have := p i _ (by rw [z]; exact h1) he
          cases this), fun b p j e hj hj' => by
        by_cases hij : i = j
        · subst hij
          rw [List.getElem?_set_self (List.getElem?_eq_some_iff.mp he).1] at hj'
          cases hj'; rfl
        · rw [List.getElem?_set_ne hij] at hj'
          exact p j e hj hj', fun _ h => h⟩
      exact ⟨.ref l, h1, q _ _ H R' st (h3.rep (same_upd h2) upd_same)⟩
theorem ev_c {v : V} {d : D} {e : Expr} (h : PE X e (tC v)) (r : ∀ F : Hp, Same C.F0 F → RepD X.K F v d) : EvD X C W e (pur d) :=
  ⟨_, h, fun F H σ ε Q R q => q v F H R Stp.refl (r F R.ff)⟩
theorem ev_int {i : Int} {j : Nat} : EvD X C W (.Constant (.int i) j pos) (pur (.int i)) := ev_c pe_int fun _ _ => .int i
theorem ev_bl {i : Bool} {j : Nat} : EvD X C W (.Constant (.bool i) j pos) (pur (.bl i)) := ev_c pe_bl fun _ _ => .bl i
theorem ev_non {j : Nat} : EvD X C W (.Constant .none j pos) (pur .non) := ev_c pe_non fun _ _ => .non
theorem ev_str {x : String} {j : Nat} : EvD X C W (.Constant (.str x) j pos) (pur (.str x)) := ev_c pe_str fun _ _ => .str _

/-! ### operators by values -/
def VOp (K : PySem.W.Frag) (r : R2) (g : D → D → Option D) : Prop := ∀ F H x y a b c Q, Same F H → RepD K F x a → RepD K F y b → g a b = some c → (∀ v F' H', Ste F H F' H' → RepD K F' v c → Q v H') → r x y H Q
def mOp (g : D → D → Option D) (f1 f2 : Mo D) : Mo D := bnd f1 fun a => bnd f2 fun b => lft (g a b)
theorem sd_op {K : PySem.W.Frag} {r : R2} {h : D → D → Option D} {ta tb : TE} (hv : VOp K r h) (ha : SdE K C W ta f) (hb : SdE K C W tb g) : SdE K C W (tOp r ta tb) (mOp h f g) := fun F H σ ε Q R q => by
  refine ha F H σ ε _ R (q.bind.imp (fun d e q1 v F1 H1 R1 s1 r1 => ?_) fun x e z => z)
  refine hb F1 H1 σ e _ R1 (q1.bind.imp (fun d2 e2 q2 v2 F2 H2 R2 s2 r2 => ?_) fun x e z => z.imp s1)
  unfold lft at q2
  cases hc : h d d2 with
  | none => rw [hc] at q2; exact q2.elim
  | some c =>
    rw [hc] at q2
    exact hv F2 H2 v v2 d d2 c Q R2.fh (r1.mono s2.ff) r2 hc fun w F3 H3 st rw' => q2 w F3 H3 (R2.step st) ((s1.trans s2).trans st.stp) rw'
theorem ev_op {op : Operator} {r : R2} {h : D → D → Option D} (ho : OpR X (binaryOp op) r) (hv : VOp X.K r h) (ha : EvD X C W a f) (hb : EvD X C W b g) : EvD X C W (.BinOp a op b pos) (mOp h f g) := by
  obtain ⟨ta, pa, sa⟩ := ha
  obtain ⟨tb, pb, sb⟩ := hb
  exact ⟨_, pe_op ho pa pb, sd_op hv sa sb⟩
theorem ev_cmp {op : CmpOp} {r : R2} {h : D → D → Option D} (ho : OpR X (compareOp op) r) (hm : behindInMarks op b = false) (hv : VOp X.K r h) (ha : EvD X C W a f) (hb : EvD X C W b g) : EvD X C W (.Compare a [op] [b] pos) (mOp h f g) := by
  obtain ⟨ta, pa, sa⟩ := ha
  obtain ⟨tb, pb, sb⟩ := hb
  exact ⟨_, pe_cmpR ho pa pb hm, sd_op hv sa sb⟩
theorem ev_ix {r : R2} {h : D → D → Option D} (ho : IxR X r) (hm : PlainIx b) (hv : VOp X.K r h) (ha : EvD X C W a f) (hb : EvD X C W b g) (hp : ∀ ta tb, PE X a ta → PE X b tb → PE X e (tOp r ta tb)) : EvD X C W e (mOp h f g) := by
  obtain ⟨ta, pa, sa⟩ := ha
  obtain ⟨tb, pb, sb⟩ := hb
  exact ⟨_, hp _ _ pa pb, sd_op hv sa sb⟩
def VUn (K : PySem.W.Frag) (r : V → Hp → VK → Prop) (g : D → Option D) : Prop := ∀ F H x a c Q, Same F H → RepD K F x a → g a = some c → (∀ v F' H', Ste F H F' H' → RepD K F' v c → Q v H') → r x H Q
def mUn (g : D → Option D) (f1 : Mo D) : Mo D := bnd f1 fun a => lft (g a)
theorem ev_un {op : UnaryOp} {r : V → Hp → VK → Prop} {h : D → Option D} (ho : UnR X (unaryOp op) r) (hv : VUn X.K r h) (ha : EvD X C W a f) : EvD X C W (.UnaryOp op a pos) (mUn h f) := by
  obtain ⟨ta, pa, sa⟩ := ha
  refine ⟨_, pe_un ho pa, fun F H σ ε Q R q => ?_⟩
  refine sa F H σ ε _ R (q.bind.imp (fun d e q1 v F1 H1 R1 s1 r1 => ?_) fun x e z => z)
  unfold lft at q1
  cases hc : h d with
  | none => rw [hc] at q1; exact q1.elim
  | some c =>
    rw [hc] at q1
    exact hv F1 H1 v d c Q R1.fh r1 hc fun w F3 H3 st rw' => q1 w F3 H3 (R1.step st) (s1.trans st.stp) rw'

/-! ### ints -/
def gI (p : Int → Int → Bool) (h : Int → Int → D) : D → D → Option D
  | .int i, .int j => if p i j then some (h i j) else none
  | _, _ => none
theorem rep_int {K : PySem.W.Frag} {F : Hp} {v : V} {i : Int} (h : RepD K F v (.int i)) : v = .int i := by cases h; rfl
theorem rep_bl {K : PySem.W.Frag} {F : Hp} {v : V} {i : Bool} (h : RepD K F v (.bl i)) : v = .bl i := by cases h; rfl
theorem rep_str {K : PySem.W.Frag} {F : Hp} {v : V} {i : Str} (h : RepD K F v (.str i)) : v = .str i := by cases h; rfl
theorem rep_non {K : PySem.W.Frag} {F : Hp} {v : V} (h : RepD K F v .non) : v = .non := by cases h; rfl
theorem vop_I {K : PySem.W.Frag} {cond : Int → Int → Prop} {p : Int → Int → Bool} {gv : Int → Int → V} {gd : Int → Int → D} (hp : ∀ i j, p i j = true → cond i j) (hr : ∀ (F : Hp) i j, RepD K F (gv i j) (gd i j)) : VOp K (rI cond gv) (gI p gd) := by
  intro F H x y a b c Q s ra rb hg q
  unfold gI at hg
  split at hg
  · rename_i i j
    split at hg
    · rename_i hpq
      cases hg
      exact ⟨i, j, rep_int ra, rep_int rb, hp i j hpq, q _ F H (Ste.refl s) (hr F i j)⟩
    · cases hg
  · cases hg
theorem vop_I0 {K : PySem.W.Frag} {gv : Int → Int → V} {gd : Int → Int → D} (hr : ∀ (F : Hp) i j, RepD K F (gv i j) (gd i j)) : VOp K (rI0 gv) (gI (fun _ _ => true) gd) := by
  intro F H x y a b c Q s ra rb hg q
  unfold gI at hg
  split at hg
  · rename_i i j
    cases hg
    exact ⟨i, j, rep_int ra, rep_int rb, q _ F H (Ste.refl s) (hr F i j)⟩
  · cases hg
/-- factors of together less than 2^27 bits -/
def mulOk (i j : Int) : Bool := decide (i.natAbs.log2 + j.natAbs.log2 < 134217000)
def CMulX (i j : Int) : Prop := i.natAbs.log2 + j.natAbs.log2 < 134217000
theorem CMulX.ok {i j : Int} (h : CMulX i j) : PySem.IntMulOk i j := by
  have b : ∀ x : Int, Builtin.Int.intBits x ≤ x.natAbs.log2 + 1 := fun x => by
    unfold Builtin.Int.intBits
    split <;> omega
  have h1 := b i
  have h2 := b j
  have h3 : i.natAbs.log2 + j.natAbs.log2 < 134217000 := h
  have e : bitsLine = 134217728 := by decide
  intro z
  have z2 := (Bool.and_eq_true_iff.mp z).2
  unfold Builtin.Int.intTooBig at z2
  have z4 := of_decide_eq_true z2
  rw [e] at z4
  omega
theorem op_mulX : OpR X (binaryOp .Mult) (rI CMulX fun i j => .int (i * j)) := opI fun _ _ _ _ _ _ _ hc q => PyProof.Rows.mul_int q hc.ok
def gAdd := gI (fun _ _ => true) fun i j => .int (i + j)
def gSub := gI (fun _ _ => true) fun i j => .int (i - j)
def gMul := gI mulOk fun i j => .int (i * j)
def gDiv := gI (fun _ j => decide (0 < j ∧ j < 1073741824)) fun i j => .int (i / j)
def gMod := gI (fun _ j => decide (0 < j)) fun i j => .int (i % j)
def gPow := gI (fun i j => decide (0 ≤ j ∧ j ≤ 1000000 ∧ i.natAbs < 2 ^ 64)) fun i j => .int (i ^ j.toNat)
def gLt := gI (fun _ _ => true) fun i j => .bl (decide (i < j))
def gLe := gI (fun _ _ => true) fun i j => .bl (decide (i ≤ j))
def gGt := gI (fun _ _ => true) fun i j => .bl (decide (j < i))
def gGe := gI (fun _ _ => true) fun i j => .bl (decide (j ≤ i))
theorem ev_add (ha : EvD X C W a f) (hb : EvD X C W b g) : EvD X C W (.BinOp a .Add b pos) (mOp gAdd f g) := ev_op op_add (vop_I0 fun _ _ _ => .int _) ha hb
theorem ev_sub (ha : EvD X C W a f) (hb : EvD X C W b g) : EvD X C W (.BinOp a .Sub b pos) (mOp gSub f g) := ev_op op_sub (vop_I0 fun _ _ _ => .int _) ha hb
theorem ev_mul (ha : EvD X C W a f) (hb : EvD X C W b g) : EvD X C W (.BinOp a .Mult b pos) (mOp gMul f g) := ev_op op_mulX (vop_I (fun i j h => (show CMulX i j from of_decide_eq_true (p := i.natAbs.log2 + j.natAbs.log2 < 134217000) h)) fun _ _ _ => .int _) ha hb
theorem ev_div (ha : EvD X C W a f) (hb : EvD X C W b g) : EvD X C W (.BinOp a .FloorDiv b pos) (mOp gDiv f g) := ev_op op_fdiv (vop_I (fun i j h => (show CDiv i j from of_decide_eq_true (p := 0 < j ∧ j < 1073741824) h)) fun _ _ _ => .int _) ha hb
theorem ev_mod (ha : EvD X C W a f) (hb : EvD X C W b g) : EvD X C W (.BinOp a .Mod b pos) (mOp gMod f g) := ev_op op_mod (vop_I (fun _ _ h => of_decide_eq_true h) fun _ _ _ => .int _) ha hb
theorem ev_pow (ha : EvD X C W a f) (hb : EvD X C W b g) : EvD X C W (.BinOp a .Pow b pos) (mOp gPow f g) := ev_op op_pow (vop_I (fun i j h => (show CPow i j from of_decide_eq_true (p := 0 ≤ j ∧ j ≤ 1000000 ∧ i.natAbs < 2 ^ 64) h)) fun _ _ _ => .int _) ha hb
theorem ev_lt (ha : EvD X C W a f) (hb : EvD X C W b g) : EvD X C W (.Compare a [.Lt] [b] pos) (mOp gLt f g) := ev_cmp op_lt (nomark _) (vop_I0 fun _ _ _ => .bl _) ha hb
theorem ev_le (ha : EvD X C W a f) (hb : EvD X C W b g) : EvD X C W (.Compare a [.LtE] [b] pos) (mOp gLe f g) := ev_cmp op_le (nomark _) (vop_I0 fun _ _ _ => .bl _) ha hb
theorem ev_gt (ha : EvD X C W a f) (hb : EvD X C W b g) : EvD X C W (.Compare a [.Gt] [b] pos) (mOp gGt f g) := ev_cmp op_gt (nomark _) (vop_I0 fun _ _ _ => .bl _) ha hb
theorem ev_ge (ha : EvD X C W a f) (hb : EvD X C W b g) : EvD X C W (.Compare a [.GtE] [b] pos) (mOp gGe f g) := ev_cmp op_ge (nomark _) (vop_I0 fun _ _ _ => .bl _) ha hb
def gNeg : D → Option D
  | .int i => some (.int (-i))
  | _ => none
theorem ev_neg (ha : EvD X C W a f) : EvD X C W (.UnaryOp .USub a pos) (mUn gNeg f) := ev_un un_neg (fun F H x d c Q s r hg q => by
  unfold gNeg at hg
  split at hg
  · cases hg; rename_i i; exact ⟨i, rep_int r, q _ F H (Ste.refl s) (.int _)⟩
  · cases hg) ha
end
end DL

set_option Elab.async false
set_option linter.all false
set_option maxRecDepth 100000
namespace DL
open PySem PySem.Spec L2
section
variable {X : Cx} {C : Ct} {W : WX} {a b c e : Expr} {pos : Pos} {f g h : Mo D}

/-! ### arguments -/
def mCons (f : Mo D) (g : Mo (List D)) : Mo (List D) := bnd f fun d => bnd g fun ds => pur (d :: ds)
theorem ea_nil : EaD X C W [] (pur []) := ⟨_, pa_nil, fun F H σ ε Q R q => q [] F H R Stp.refl .nil⟩
theorem ea_cons {es : List Expr} {fs : Mo (List D)} (he : EvD X C W e f) (hr : EaD X C W es fs) (hs : starEach (e :: es) X.env = (false, eval e X.env) :: starEach es X.env := by rfl) : EaD X C W (e :: es) (mCons f fs) := by
  obtain ⟨te, p1, s1⟩ := he
  obtain ⟨tr, p2, s2⟩ := hr
  refine ⟨_, pa_cons p1 p2 hs, fun F H σ ε Q R q => ?_⟩
  refine s1 F H σ ε _ R (q.bind.imp (fun d e q1 v F1 H1 R1 st1 r1 => ?_) fun x e z => z)
  refine s2 F1 H1 σ e _ R1 (q1.bind.imp (fun ds e2 q2 vs F2 H2 R2 st2 r2 => ?_) fun x e z => z.imp st1)
  exact q2 (v :: vs) F2 H2 R2 (st1.trans st2) (.cons (r1.mono st2.ff) r2)

/-! ### displays -/
def mTup (f : Mo (List D)) : Mo D := bnd f fun ds => lft (if ds.length ≤ 1000 then some (.tup ds) else none)
def mLst (f : Mo (List D)) : Mo D := bnd f fun ds => lft (if ds.length ≤ 1000 then some (.lst ds) else none)
theorem le_line {n : Nat} (h : n ≤ 1000) : n ≤ sizeLine := Nat.le_of_lt (small1000 h)
theorem ev_tup {es : List Expr} {fs : Mo (List D)} {k : Nat} (h : EaD X C W es fs) : EvD X C W (.Tuple es k pos) (mTup fs) := by
  obtain ⟨te, p1, s1⟩ := h
  refine ⟨_, pe_tup p1, fun F H σ ε Q R q => ?_⟩
  refine s1 F H σ ε _ R (q.bind.imp (fun ds e q1 vs F1 H1 R1 st1 r1 => ?_) fun x e z => z)
  unfold lft at q1
  by_cases hl : ds.length ≤ 1000
  · rw [if_pos hl] at q1
    refine ⟨by rw [r1.length]; exact le_line hl, fun p hp => ?_⟩
    have st := Ste.laid (o := .tup vs) R1.fh hp
    exact q1 _ _ _ (R1.step st) (st1.trans st.stp) (.tup (.inl (.inl upd_same)) (r1.mono st.ff))
  · rw [if_neg hl] at q1; exact q1.elim
theorem ev_lst {es : List Expr} {fs : Mo (List D)} (h : EaD X C W es fs) : EvD X C W (.List es pos) (mLst fs) := by
  obtain ⟨te, p1, s1⟩ := h
  refine ⟨_, pe_lst p1, fun F H σ ε Q R q => ?_⟩
  refine s1 F H σ ε _ R (q.bind.imp (fun ds e q1 vs F1 H1 R1 st1 r1 => ?_) fun x e z => z)
  unfold lft at q1
  by_cases hl : ds.length ≤ 1000
  · rw [if_pos hl] at q1
    refine ⟨by rw [r1.length]; exact le_line hl, fun p hp => ?_⟩
    have st := Ste.laid (o := .lst vs) R1.fh hp
    exact q1 _ _ _ (R1.step st) (st1.trans st.stp) (.lst upd_same (r1.mono st.ff))
  · rw [if_neg hl] at q1; exact q1.elim

/-! ### truth -/
def asB : D → Option Bool
  | .bl b => some b
  | _ => none
def mB (f : Mo D) : Mo Bool := bnd f fun d => lft (asB d)
theorem asB_eq {d : D} {k : Bool} (h : asB d = some k) : d = .bl k := by
  unfold asB at h
  split at h
  · cases h; rfl
  · cases h
theorem te_val {e : Expr} (h : EvD X C W e f) (he : ∀ whole, isTrue e X.env whole = (do let v ← whole; standAt e.pos; holding [v] (truthy v)) := by intro _; rfl) : TeD X C W e (mB f) := by
  obtain ⟨te, p1, s1⟩ := h
  refine ⟨_, pt_val p1 he, fun F H σ ε Q R q => ?_⟩
  refine s1 F H σ ε _ R (q.bind.imp (fun d e q1 v F1 H1 R1 st1 r1 => ?_) fun x e z => z)
  unfold lft at q1
  cases hk : asB d with
  | none => rw [hk] at q1; exact q1.elim
  | some k =>
    rw [hk] at q1
    have := asB_eq hk
    subst this
    exact ⟨k, rep_bl r1, q1 F1 H1 R1 st1⟩
def mNot (f : Mo Bool) : Mo Bool := bnd f fun b => pur !b
theorem te_not {f : Mo Bool} (h : TeD X C W a f) : TeD X C W (.UnaryOp .Not a pos) (mNot f) := by
  obtain ⟨te, p1, s1⟩ := h
  refine ⟨_, pt_not p1, fun F H σ ε Q R q => ?_⟩
  exact s1 F H σ ε _ R (q.bind.imp (fun d e q1 F1 H1 R1 st1 => q1 F1 H1 R1 st1) fun x e z => z)
def mAnd (f g : Mo Bool) : Mo Bool := bnd f fun b => if b = true then g else pur false
def mOr (f g : Mo Bool) : Mo Bool := bnd f fun b => if b = true then pur true else g
theorem te_w {f : Mo Bool} (h : TwD X C W a f) : TeD X C W a f := by
  obtain ⟨te, p1, s1⟩ := h
  exact ⟨te, p1.pt, s1⟩
theorem tw_and1 {f : Mo Bool} (h : TeD X C W a f) : TwD X C W (.BoolOp .And [a] pos) f := by
  obtain ⟨te, p1, s1⟩ := h
  exact ⟨te, pw_and1 p1, s1⟩
theorem tw_or1 {f : Mo Bool} (h : TeD X C W a f) : TwD X C W (.BoolOp .Or [a] pos) f := by
  obtain ⟨te, p1, s1⟩ := h
  exact ⟨te, pw_or1 p1, s1⟩
theorem tw_and {f g : Mo Bool} {rest : List Expr} (ha : TeD X C W a f) (hb : TwD X C W (.BoolOp .And (b :: rest) pos) g) : TwD X C W (.BoolOp .And (a :: b :: rest) pos) (mAnd f g) := by
  obtain ⟨te, p1, s1⟩ := ha
  obtain ⟨tb, p2, s2⟩ := hb
  refine ⟨_, pw_and p1 p2, fun F H σ ε Q R q => ?_⟩
  refine s1 F H σ ε _ R (q.bind.imp (fun d e q1 F1 H1 R1 st1 => ?_) fun x e z => z)
  cases d with
  | true =>
    refine iteT ?_
    rw [if_pos rfl] at q1
    exact s2 F1 H1 σ e _ R1 (q1.imp (fun d2 e2 q2 F2 H2 R2 st2 => q2 F2 H2 R2 (st1.trans st2)) fun x e z => z.imp st1)
  | false =>
    refine iteF ?_
    exact q1 F1 H1 R1 st1
theorem tw_or {f g : Mo Bool} {rest : List Expr} (ha : TeD X C W a f) (hb : TwD X C W (.BoolOp .Or (b :: rest) pos) g) : TwD X C W (.BoolOp .Or (a :: b :: rest) pos) (mOr f g) := by
  obtain ⟨te, p1, s1⟩ := ha
  obtain ⟨tb, p2, s2⟩ := hb
  refine ⟨_, pw_or p1 p2, fun F H σ ε Q R q => ?_⟩
  refine s1 F H σ ε _ R (q.bind.imp (fun d e q1 F1 H1 R1 st1 => ?_) fun x e z => z)
  cases d with
  | false =>
    refine iteF ?_
    rw [if_neg Bool.false_ne_true] at q1
    exact s2 F1 H1 σ e _ R1 (q1.imp (fun d2 e2 q2 F2 H2 R2 st2 => q2 F2 H2 R2 (st1.trans st2)) fun x e z => z.imp st1)
  | true =>
    refine iteT ?_
    exact q1 F1 H1 R1 st1
/-! as values -/
def mAndV (f g : Mo D) : Mo D := bnd (mB f) fun b => if b = true then g else pur (.bl false)
def mOrV (f g : Mo D) : Mo D := bnd (mB f) fun b => if b = true then pur (.bl true) else g
def mNotV (f : Mo D) : Mo D := bnd (mB f) fun b => pur (.bl !b)
theorem good_mB {f : Mo D} {ε : List Ent} {p : Bool → List Ent → Prop} {q : Xn → List Ent → Prop} (h : Good (mB f ε) p q) : Good (f ε) (fun d e => ∃ k, d = .bl k ∧ p k e) q := by
  refine h.bind.imp (fun d e q1 => ?_) fun x e z => z
  unfold lft at q1
  cases hk : asB d with
  | none => rw [hk] at q1; exact q1.elim
  | some k => rw [hk] at q1; exact ⟨k, asB_eq hk, q1⟩
theorem ev_one {op : BoolOp} (h : EvD X C W a f) : EvD X C W (.BoolOp op [a] pos) f := by
  obtain ⟨te, p1, s1⟩ := h
  exact ⟨te, pe_one p1, s1⟩
theorem ev_and {rest : List Expr} (ha : EvD X C W a f) (hb : EvD X C W (.BoolOp .And (b :: rest) pos) g) : EvD X C W (.BoolOp .And (a :: b :: rest) pos) (mAndV f g) := by
  obtain ⟨te, p1, s1⟩ := ha
  obtain ⟨tb, p2, s2⟩ := hb
  refine ⟨_, pe_and p1 p2, fun F H σ ε Q R q => ?_⟩
  refine s1 F H σ ε _ R ((good_mB q.bind).imp (fun d e ⟨k, ek, q1⟩ v F1 H1 R1 st1 r1 => ?_) fun x e z => z)
  subst ek
  refine ⟨k, rep_bl r1, ?_⟩
  cases k with
  | true =>
    refine iteT ?_
    rw [if_pos rfl] at q1
    exact s2 F1 H1 σ e _ R1 (q1.imp (fun d2 e2 q2 v2 F2 H2 R2 st2 r2 => q2 v2 F2 H2 R2 (st1.trans st2) r2) fun x e z => z.imp st1)
  | false =>
    refine iteF ?_
    exact q1 _ F1 H1 R1 st1 (.bl false)
theorem ev_or {rest : List Expr} (ha : EvD X C W a f) (hb : EvD X C W (.BoolOp .Or (b :: rest) pos) g) : EvD X C W (.BoolOp .Or (a :: b :: rest) pos) (mOrV f g) := by
  obtain ⟨te, p1, s1⟩ := ha
  obtain ⟨tb, p2, s2⟩ := hb
  refine ⟨_, pe_or p1 p2, fun F H σ ε Q R q => ?_⟩
  refine s1 F H σ ε _ R ((good_mB q.bind).imp (fun d e ⟨k, ek, q1⟩ v F1 H1 R1 st1 r1 => ?_) fun x e z => z)
  subst ek
  refine ⟨k, rep_bl r1, ?_⟩
  cases k with
  | false =>
    refine iteF ?_
    rw [if_neg Bool.false_ne_true] at q1
    exact s2 F1 H1 σ e _ R1 (q1.imp (fun d2 e2 q2 v2 F2 H2 R2 st2 r2 => q2 v2 F2 H2 R2 (st1.trans st2) r2) fun x e z => z.imp st1)
  | true =>
    refine iteT ?_
    exact q1 _ F1 H1 R1 st1 (.bl true)
theorem ev_not (ha : EvD X C W a f) : EvD X C W (.UnaryOp .Not a pos) (mNotV f) := by
  obtain ⟨te, p1, s1⟩ := ha
  refine ⟨_, pe_not p1, fun F H σ ε Q R q => ?_⟩
  refine s1 F H σ ε _ R ((good_mB q.bind).imp (fun d e ⟨k, ek, q1⟩ v F1 H1 R1 st1 r1 => ?_) fun x e z => z)
  subst ek
  exact ⟨k, rep_bl r1, q1 _ F1 H1 R1 st1 (.bl _)⟩
def mIf (t : Mo Bool) (f g : Mo D) : Mo D := bnd t fun b => if b = true then f else g
theorem ev_if {t : Mo Bool} (hc : TeD X C W c t) (ha : EvD X C W a f) (hb : EvD X C W b g) : EvD X C W (.IfExp c a b pos) (mIf t f g) := by
  obtain ⟨tc, p0, s0⟩ := hc
  obtain ⟨te, p1, s1⟩ := ha
  obtain ⟨tb, p2, s2⟩ := hb
  refine ⟨_, pe_ifExp p0 p1 p2, fun F H σ ε Q R q => ?_⟩
  refine s0 F H σ ε _ R (q.bind.imp (fun d e q1 F1 H1 R1 st1 => ?_) fun x e z => z)
  cases d with
  | true =>
    refine iteT ?_
    rw [if_pos rfl] at q1
    exact s1 F1 H1 σ e _ R1 (q1.imp (fun d2 e2 q2 v2 F2 H2 R2 st2 r2 => q2 v2 F2 H2 R2 (st1.trans st2) r2) fun x e z => z.imp st1)
  | false =>
    refine iteF ?_
    rw [if_neg Bool.false_ne_true] at q1
    exact s2 F1 H1 σ e _ R1 (q1.imp (fun d2 e2 q2 v2 F2 H2 R2 st2 r2 => q2 v2 F2 H2 R2 (st1.trans st2) r2) fun x e z => z.imp st1)
/-- a op b op' c -/
def mChain (g1 g2 : D → D → Option D) (f g h : Mo D) : Mo D := bnd f fun x => bnd g fun y => bnd (mB (lft (g1 x y))) fun k => if k = true then bnd h fun z => lft (g2 y z) else pur (.bl false)
theorem ev_chain {op op' : CmpOp} {r r' : R2} {g1 g2 : D → D → Option D} (ho : OpR X (compareOp op) r) (ho' : OpR X (compareOp op') r') (hv : VOp X.K r g1) (hv' : VOp X.K r' g2) (ha : EvD X C W a f) (hb : EvD X C W b g) (hc : EvD X C W c h)
    (hp : ∀ ta tb tc, PE X a ta → PE X b tb → PE X c tc → PE X e (tChain r r' ta tb tc)) : EvD X C W e (mChain g1 g2 f g h) := by
  obtain ⟨ta, p0, s0⟩ := ha
  obtain ⟨tb, p1, s1⟩ := hb
  obtain ⟨tc, p2, s2⟩ := hc
  refine ⟨_, hp _ _ _ p0 p1 p2, fun F H σ ε Q R q => ?_⟩
  refine s0 F H σ ε _ R (q.bind.imp (fun d e q1 v F1 H1 R1 st1 r1 => ?_) fun x e z => z)
  refine s1 F1 H1 σ e _ R1 (q1.bind.imp (fun d2 e2 q2 v2 F2 H2 R2 st2 r2 => ?_) fun x e z => z.imp st1)
  have q3 := good_mB q2.bind
  unfold lft at q3
  cases hk : g1 d d2 with
  | none => rw [hk] at q3; exact q3.elim
  | some k =>
    rw [hk] at q3
    obtain ⟨kb, ek, q4⟩ := q3
    subst ek
    refine hv F2 H2 v v2 d d2 _ _ R2.fh (r1.mono st2.ff) r2 hk fun w F3 H3 st3 rw' => ⟨kb, rep_bl rw', ?_⟩
    have R3 := R2.step st3
    have stA := (st1.trans st2).trans (st3.stp (σ := σ) (ε := e2))
    cases kb with
    | false =>
      refine iteF ?_
      exact q4 _ F3 H3 R3 stA (.bl false)
    | true =>
      refine iteT ?_
      rw [if_pos rfl] at q4
      refine s2 F3 H3 σ e2 _ R3 (q4.bind.imp (fun d4 e4 q5 v4 F4 H4 R4 st4 r4 => ?_) fun x e z => z.imp stA)
      cases hg : g2 d2 d4 with
      | none => rw [hg] at q5; exact q5.elim
      | some y =>
        rw [hg] at q5
        exact hv' F4 H4 v2 v4 d2 d4 _ _ R4.fh ((r2.mono st3.ff).mono st4.ff) r4 hg fun w5 F5 H5 st5 rw5 => q5 w5 F5 H5 (R4.step st5) ((stA.trans st4).trans st5.stp) rw5

/-! ### calls of built-ins -/
def VCall (K : PySem.W.Frag) (r : List V → Hp → VK → Prop) (g : List D → Option D) : Prop := ∀ F H xs ds c Q, Same F H → RepL K F xs ds → g ds = some c → (∀ v F' H', Ste F H F' H' → RepD K F' v c → Q v H') → r xs H Q
def mCall (g : List D → Option D) (f : Mo (List D)) : Mo D := bnd f fun ds => lft (g ds)
theorem ev_cb {r : List V → Hp → VK → Prop} {g : List D → Option D} {es : List Expr} {fs : Mo (List D)} (hv : VCall X.K r g) (ha : EaD X C W es fs) (hp : ∀ ta, PA X es ta → PE X e (tCB r ta)) : EvD X C W e (mCall g fs) := by
  obtain ⟨ta, p1, s1⟩ := ha
  refine ⟨_, hp _ p1, fun F H σ ε Q R q => ?_⟩
  refine s1 F H σ ε _ R (q.bind.imp (fun ds e q1 vs F1 H1 R1 st1 r1 => ?_) fun x e z => z)
  unfold lft at q1
  cases hg : g ds with
  | none => rw [hg] at q1; exact q1.elim
  | some c =>
    rw [hg] at q1
    exact hv F1 H1 vs ds c Q R1.fh r1 hg fun w F3 H3 st rw' => q1 w F3 H3 (R1.step st) (st1.trans st.stp) rw'

/-! ### what a def does, by data -/
inductive Ans where
  | ret (d : D)
  | exc (x : Xn)
/-- a def without mutable arguments -/
def SpP (K : PySem.W.Frag) (n : Nat) (m : List D → Option Ans) : Sp := fun vs H Q E => vs.length = n ∧ ∃ F ds, Same F H ∧ RepL K F vs ds ∧ match m ds with
  | some (.ret d) => ∀ v F' H', Ste F H F' H' → RepD K F' v d → Q v H'
  | some (.exc x) => ∀ c od F' H', Ste F H F' H' → RepX K F' H' x c od → E c od H'
  | none => False
def ansM (o : Option Ans) : Mo D := fun ε => match o with
  | some (.ret d) => some (.ok d ε)
  | some (.exc x) => some (.ex x ε)
  | none => none
/-- a def whose first argument is a list that it changes -/
def SpQ (K : PySem.W.Frag) (n : Nat) (m : List D → List D → Option (Ans × List D)) : Sp := fun vs H Q E => vs.length = n ∧ ∃ F l us ws ps ds, vs = .ref l :: ws ∧ Same F H ∧ H l = some (.lst us) ∧ F l = none ∧ RepL K F us ps ∧ RepL K F ws ds ∧ match m ps ds with
  | some (.ret d, ps') => ∀ v F' H' us', Same F F' → Same F' H' → (∀ b o, H b = some o → b ≠ l → H' b = some o) → (∀ b, H b ≠ none → F' b = F b) → H' l = some (.lst us') → RepL K F' us' ps' → RepD K F' v d → Q v H'
  | some (.exc x, ps') => ∀ c od F' H' us', Same F F' → Same F' H' → (∀ b o, H b = some o → b ≠ l → H' b = some o) → (∀ b, H b ≠ none → F' b = F b) → H' l = some (.lst us') → RepL K F' us' ps' → RepX K F' H' x c od → E c od H'
  | none => False
end
def Ent.get : Ent → Option (List D)
  | .own ds => some ds
  | .io ds => some ds
  | _ => none
def Ent.put (ds : List D) : Ent → Ent
  | .own _ => .own ds
  | .io _ => .io ds
  | e => e
section
variable {K : PySem.W.Frag} {C : Ct} {F H F' H' : Hp} {σ : St} {ε : List Ent}
theorem Rep.at (R : Rep K C F H σ ε) {i : Nat} {e : Ent} {ps : List D} (he : ε[i]? = some e) (hp : e.get = some ps) : ∃ l us, σ[i]? = some (some (.ref l)) ∧ H l = some (.lst us) ∧ F l = none ∧ RepL K F us ps ∧ e.mut = true := by
  have q := R.ent i e he
  cases e with
  | un => cases hp
  | xc => cases hp
  | dat d => cases hp
  | own ds =>
    cases hp
    obtain ⟨l, us, a, b, c, d, _⟩ := q
    exact ⟨l, us, a, b, c, d, rfl⟩
  | io ds =>
    cases hp
    obtain ⟨l, us, a, b, c, d, _⟩ := q
    exact ⟨l, us, a, b, c, d, rfl⟩
  | od ob => cases hp
theorem Rep.apart (R : Rep K C F H σ ε) {i : Nat} {e : Ent} {l b : Addr} (he : ε[i]? = some e) (hm : e.mut = true) (ha : σ[i]? = some (some (.ref l))) (p : Apart σ ε b) : b ≠ l := fun z => by
  have := p i e (by rw [z]; exact ha) he
  rw [this] at hm; cases hm
/-- a mutable list changes, and new things may have come -/
theorem Rep.callQ (R : Rep K C F H σ ε) {i : Nat} {e : Ent} {ps ps' : List D} {l : Addr} {us' : List V} (he : ε[i]? = some e) (hp : e.get = some ps) (ha : σ[i]? = some (some (.ref l)))
    (h1 : Same F F') (h2 : Same F' H') (h3 : ∀ b o, H b = some o → b ≠ l → H' b = some o) (h4 : ∀ b, H b ≠ none → F' b = F b) (h5 : H' l = some (.lst us')) (h6 : RepL K F' us' ps') :
    Rep K C F' H' σ (ε.set i (e.put ps')) ∧ Stp σ ε (ε.set i (e.put ps')) F H F' H' := by
  obtain ⟨l2, us, a, b, c, d, hm⟩ := R.at he hp
  rw [ha] at a
  cases a
  have fl : F' l = none := (h4 l (by rw [b]; exact fun z => by cases z)).trans c
  have st : Ste F H F' (fun x => if x = l then H l else H' x) := ⟨h1, fun x o q => by
      by_cases hx : x = l
      · rw [hx, fl] at q; cases q
      · show (if x = l then H l else H' x) = _
        rw [if_neg hx]; exact h2 x o q, h4, fun x o q => by
      show (if x = l then H l else H' x) = _
      by_cases hx : x = l
      · rw [if_pos hx, ← hx]; exact q
      · rw [if_neg hx]; exact h3 x o q hx⟩
  have R1 := R.step st
  have R2 := R1.change he hm ha h6 (e' := e.put ps') (by
    cases e with
    | un => cases hp
    | xc => cases hp
    | dat d => cases hp
    | own ds => exact .inl ⟨_, rfl, rfl⟩
    | io ds => exact .inr ⟨_, rfl, rfl⟩
    | od ob => cases hp)
  have eH : upd (fun x => if x = l then H l else H' x) l (.lst us') = H' := by
    funext x
    by_cases hx : x = l
    · subst hx; rw [upd_same, h5]
    · rw [upd_ne hx, if_neg hx]
  rw [eH] at R2
  refine ⟨R2, h1, fun x o q p => h3 x o q (R.apart he hm ha p), fun x q _ => h4 x q, fun x p j e2 hj hj' => ?_, fun x q => by
    by_cases hx : x = l
    · rw [hx, h5]; exact fun z => by cases z
    · cases qq : H x with
      | none => exact absurd qq q
      | some o => rw [h3 x o qq hx]; exact fun z => by cases z⟩
  by_cases hij : i = j
  · subst hij
    have := p i e hj he
    rw [this] at hm; cases hm
  · rw [List.getElem?_set_ne hij] at hj'
    exact p j e2 hj hj'
end
section
variable {X : Cx} {C : Ct} {W : WX} {a b c e : Expr} {pos : Pos} {f g h : Mo D}
def mFn (n : Nat) (m : List D → Option Ans) (f : Mo (List D)) : Mo D := bnd f fun ds => if ds.length = n then ansM (m ds) else lft none
theorem ev_fn {n : Nat} {m : List D → Option Ans} {es : List Expr} {fs : Mo (List D)} (ha : EaD X C W es fs) (hp : ∀ ta, PA X es ta → PE X e (tCallS (SpP X.K n m) (WE W) ta)) : EvD X C W e (mFn n m fs) := by
  obtain ⟨ta, p1, s1⟩ := ha
  refine ⟨_, hp _ p1, fun F H σ ε Q R q => ?_⟩
  refine s1 F H σ ε _ R (q.bind.imp (fun ds e q1 vs F1 H1 R1 st1 r1 => ?_) fun x e z => z)
  by_cases hl : ds.length = n
  · rw [if_pos hl] at q1
    refine ⟨by rw [r1.length]; exact hl, F1, ds, R1.fh, r1, ?_⟩
    unfold ansM at q1
    cases hm : m ds with
    | none => rw [hm] at q1; exact q1.elim
    | some an =>
      rw [hm] at q1
      cases an with
      | ret d => exact fun v F' H' st r => q1 v F' H' (R1.step st) (st1.trans st.stp) r
      | exc x => exact fun c od F' H' st r => q1 c od F' H' (R1.step st) (st1.trans st.stp) r
  · rw [if_neg hl] at q1; exact q1.elim
def mFnQ (i n : Nat) (m : List D → List D → Option (Ans × List D)) (f : Mo (List D)) : Mo D := fun ε0 => match (ε0[i]?).bind Ent.get with
  | none => none
  | some _ => bnd f (fun ds ε => match ε[i]? with
    | none => none
    | some e => match e.get with
      | none => none
      | some ps => if ds.length + 1 = n then (match m ps ds with
        | some (.ret d, ps') => some (.ok d (ε.set i (e.put ps')))
        | some (.exc x, ps') => some (.ex x (ε.set i (e.put ps')))
        | none => none) else none) ε0
theorem ev_fnQ {i n : Nat} {m : List D → List D → Option (Ans × List D)} {en : Expr} {es : List Expr} {fs : Mo (List D)} (hn : PE X en (tVar i)) (ha : EaD X C W es fs) (hp : ∀ ta, PA X es ta → PE X e (tCallS (SpQ X.K n m) (WE W) (tCons (tVar i) ta))) : EvD X C W e (mFnQ i n m fs) := by
  obtain ⟨ta, p1, s1⟩ := ha
  refine ⟨_, hp _ p1, fun F H σ ε Q R q => ?_⟩
  unfold mFnQ at q
  cases h0 : ε[i]? with
  | none => rw [h0] at q; exact q.elim
  | some e0 =>
    cases h1 : e0.get with
    | none => rw [h0] at q; simp only [Option.bind_some, h1] at q; exact q.elim
    | some p0 =>
      rw [h0] at q
      simp only [Option.bind_some, h1] at q
      obtain ⟨l, us0, a0, _⟩ := R.at h0 h1
      refine ⟨.ref l, a0, ?_⟩
      refine s1 F H σ ε _ R (q.bind.imp (fun ds e q1 vs F1 H1 R1 st1 r1 => ?_) fun x e z => z)
      cases h2 : e[i]? with
      | none => rw [h2] at q1; exact q1.elim
      | some e1 =>
        rw [h2] at q1
        dsimp only at q1
        cases h3 : e1.get with
        | none => rw [h3] at q1; exact q1.elim
        | some ps =>
          rw [h3] at q1
          dsimp only at q1
          by_cases hl : ds.length + 1 = n
          · rw [if_pos hl] at q1
            obtain ⟨l2, us, a, b, c, d, hm⟩ := R1.at h2 h3
            rw [a0] at a
            cases a
            refine ⟨by rw [List.length_cons, r1.length]; exact hl, F1, l, us, vs, ps, ds, rfl, R1.fh, b, c, d, r1, ?_⟩
            cases hmm : m ps ds with
            | none => rw [hmm] at q1; exact q1.elim
            | some an =>
              rw [hmm] at q1
              obtain ⟨an, ps'⟩ := an
              cases an with
              | ret d =>
                intro v F' H' us' k1 k2 k3 k4 k5 k6 k7
                obtain ⟨R2, st2⟩ := R1.callQ h2 h3 a0 k1 k2 k3 k4 k5 k6
                exact q1 v F' H' R2 (st1.trans st2) k7
              | exc x =>
                intro c od F' H' us' k1 k2 k3 k4 k5 k6 k7
                obtain ⟨R2, st2⟩ := R1.callQ h2 h3 a0 k1 k2 k3 k4 k5 k6
                exact q1 c od F' H' R2 (st1.trans st2) k7
          · rw [if_neg hl] at q1; exact q1.elim
/-- xs.pop() of a list of one's own -/
def mPop (i : Nat) : Mo D := fun ε => match ε[i]? with
  | none => none
  | some e => match e.get with
    | none => none
    | some ps => match ps[ps.length - 1]? with
      | none => none
      | some d => some (.ok d (ε.set i (e.put ps.dropLast)))
theorem ev_pop {i : Nat} (hp : PE X e (tBM0 X.K "list" rPop (tVar i))) : EvD X C W e (mPop i) := by
  refine ⟨_, hp, fun F H σ ε Q R q => ?_⟩
  unfold mPop at q
  cases h2 : ε[i]? with
  | none => rw [h2] at q; exact q.elim
  | some e1 =>
    rw [h2] at q
    dsimp only at q
    cases h3 : e1.get with
    | none => rw [h3] at q; exact q.elim
    | some ps =>
      rw [h3] at q
      dsimp only at q
      obtain ⟨l, us, a, b, c, d, hm⟩ := R.at h2 h3
      cases h4 : ps[ps.length - 1]? with
      | none => rw [h4] at q; exact q.elim
      | some y =>
        rw [h4] at q
        obtain ⟨v, hv, rv⟩ := d.get h4
        refine ⟨.ref l, a, .inl ⟨rfl, us, .inl (.inl b)⟩, l, us, v, rfl, rfl, b, by rw [d.length]; exact hv, ?_⟩
        obtain ⟨R2, st2⟩ := R.callQ (F' := F) (H' := upd H l (.lst us.dropLast)) h2 h3 a (Same.refl F) (fun x o q => by
          rw [upd_ne (fun z => by rw [z, c] at q; cases q)]; exact R.fh x o q) (fun x o q n => by rw [upd_ne n]; exact q) (fun _ _ => rfl) upd_same d.dropLast
        exact q v F _ R2 st2 rv
/-- len(xs), xs a name whatever holds it -/
def mLenN (i : Nat) : Mo D := fun ε => match ε[i]? with
  | some (.own ds) => some (.ok (.int ds.length) ε)
  | some (.io ds) => some (.ok (.int ds.length) ε)
  | some (.dat (.lst ds)) => some (.ok (.int ds.length) ε)
  | some (.dat (.rdl ds)) => some (.ok (.int ds.length) ε)
  | some (.dat (.tup ds)) => some (.ok (.int ds.length) ε)
  | some (.dat (.str x)) => if x.length ≤ 1000000 then some (.ok (.int x.length) ε) else none
  | _ => none
theorem rep_seqs {K : PySem.W.Frag} {F : Hp} {v : V} {ds : List D} : RepD K F v (.lst ds) → ∃ a xs, v = .ref a ∧ SqL K F a xs ∧ RepL K F xs ds := fun h => by
  cases h with
  | lst a b => exact ⟨_, _, rfl, .inl (.inl a), b⟩
theorem rep_lst {K : PySem.W.Frag} {F : Hp} {v : V} {ds : List D} : RepD K F v (.lst ds) → ∃ a xs, v = .ref a ∧ F a = some (.lst xs) ∧ RepL K F xs ds := fun h => by
  cases h with
  | lst a b => exact ⟨_, _, rfl, a, b⟩
theorem rep_rdl {K : PySem.W.Frag} {F : Hp} {v : V} {ds : List D} : RepD K F v (.rdl ds) → ∃ a xs, v = .ref a ∧ SqL K F a xs ∧ RepL K F xs ds := fun h => by
  cases h with
  | rdl a b => exact ⟨_, _, rfl, a, b⟩
theorem rep_tup {K : PySem.W.Frag} {F : Hp} {v : V} {ds : List D} : RepD K F v (.tup ds) → ∃ a xs, v = .ref a ∧ SqT K F a xs ∧ RepL K F xs ds := fun h => by
  cases h with
  | tup a b => exact ⟨_, _, rfl, a, b⟩
theorem line_big {n : Nat} (h : n ≤ 1000000) : n ≤ sizeLine := Nat.le_trans h (by decide)
theorem ev_lenN {i : Nat} (hp : PE X e (tCB (fun xs H Q => ∃ x n, xs = [x] ∧ LenV X.K x H n ∧ Q (.int n) H) (tCons (tVar i) tNil))) : EvD X C W e (mLenN i) := by
  refine ⟨_, hp, fun F H σ ε Q R q => ?_⟩
  unfold mLenN at q
  cases h2 : ε[i]? with
  | none => rw [h2] at q; exact q.elim
  | some e1 =>
    rw [h2] at q
    have en := R.ent i e1 h2
    cases e1 with
    | un => exact q.elim
    | xc => exact q.elim
    | od ob => exact q.elim
    | own ds =>
      obtain ⟨l, us, a, b, c, d, _⟩ := en
      refine ⟨.ref l, a, .ref l, us.length, rfl, .inl ⟨us, .inl (.inl b), rfl⟩, ?_⟩
      rw [d.length]
      exact q _ F H R Stp.refl (.int _)
    | io ds =>
      obtain ⟨l, us, a, b, c, d, _⟩ := en
      refine ⟨.ref l, a, .ref l, us.length, rfl, .inl ⟨us, .inl (.inl b), rfl⟩, ?_⟩
      rw [d.length]
      exact q _ F H R Stp.refl (.int _)
    | dat z =>
      obtain ⟨v, a, r⟩ := en
      cases z with
      | lst ds =>
        obtain ⟨p, xs, rfl, s, r2⟩ := rep_seqs r
        refine ⟨_, a, .ref p, xs.length, rfl, .inl ⟨xs, Same.seq R.fh s, rfl⟩, ?_⟩
        rw [r2.length]
        exact q _ F H R Stp.refl (.int _)
      | rdl ds =>
        obtain ⟨p, xs, rfl, s, r2⟩ := rep_rdl r
        refine ⟨_, a, .ref p, xs.length, rfl, .inl ⟨xs, Same.seq R.fh s, rfl⟩, ?_⟩
        rw [r2.length]
        exact q _ F H R Stp.refl (.int _)
      | tup ds =>
        obtain ⟨p, xs, rfl, s, r2⟩ := rep_tup r
        refine ⟨_, a, .ref p, xs.length, rfl, .inr ⟨xs, seqT R.fh s, rfl⟩, ?_⟩
        rw [r2.length]
        exact q _ F H R Stp.refl (.int _)
      | str x =>
        have := rep_str r
        subst this
        by_cases hx : x.length ≤ 1000000
        · simp only [hx, if_true] at q
          exact ⟨_, a, .str x, x.length, rfl, ⟨line_big hx, rfl⟩, q _ F H R Stp.refl (.int _)⟩
        · simp only [hx, if_false] at q
          exact q.elim
      | non => exact q.elim
      | bl k => exact q.elim
      | int k => exact q.elim
      | rf k => exact q.elim
      | dct => exact q.elim
      | fn => exact q.elim
      | dk => exact q.elim
      | dt => exact q.elim
def gLen : D → Option D
  | .lst ds => some (.int ds.length)
  | .rdl ds => some (.int ds.length)
  | .tup ds => some (.int ds.length)
  | .str x => if x.length ≤ 1000000 then some (.int x.length) else none
  | _ => none
def gOne (h : D → Option D) : List D → Option D
  | [d] => h d
  | _ => none
def gTwo (h : D → D → Option D) : List D → Option D
  | [d, e] => h d e
  | _ => none
theorem vc_len {K : PySem.W.Frag} : VCall K (fun xs H Q => ∃ x n, xs = [x] ∧ LenV K x H n ∧ Q (.int n) H) (gOne gLen) := by
  intro F H xs ds c Q s r hg q
  unfold gOne at hg
  split at hg
  · rename_i d
    cases r with
    | cons r1 r2 =>
      cases r2
      unfold gLen at hg
      split at hg
      · cases hg
        obtain ⟨p, xs, rfl, s2, r2⟩ := rep_seqs r1
        refine ⟨.ref p, xs.length, rfl, .inl ⟨xs, Same.seq s s2, rfl⟩, ?_⟩
        rw [r2.length]
        exact q _ F H (Ste.refl s) (.int _)
      · cases hg
        obtain ⟨p, xs, rfl, s2, r2⟩ := rep_rdl r1
        refine ⟨.ref p, xs.length, rfl, .inl ⟨xs, Same.seq s s2, rfl⟩, ?_⟩
        rw [r2.length]
        exact q _ F H (Ste.refl s) (.int _)
      · cases hg
        obtain ⟨p, xs, rfl, s2, r2⟩ := rep_tup r1
        refine ⟨.ref p, xs.length, rfl, .inr ⟨xs, seqT s s2, rfl⟩, ?_⟩
        rw [r2.length]
        exact q _ F H (Ste.refl s) (.int _)
      · rename_i x
        split at hg
        · rename_i hx
          cases hg
          have := rep_str r1
          subst this
          exact ⟨_, x.length, rfl, ⟨line_big hx, rfl⟩, q _ F H (Ste.refl s) (.int _)⟩
        · cases hg
      · cases hg
  · cases hg
end
end DL

set_option Elab.async false
set_option linter.all false
set_option maxRecDepth 100000
namespace DL
open PySem PySem.Spec L2

/-! ### == of data -/
mutual
def toPy : D → Option PyData
  | .non => some .none
  | .bl b => some (.bool b)
  | .int i => some (.int i)
  | .str x => some (.str x)
  | .tup ds => (toPyL ds).map .tuple
  | .lst ds => (toPyL ds).map .list
  | .rdl ds => (toPyL ds).map .list
  | .rf _ => none
  | .dct => none
  | .fn _ => none
  | .dk _ _ => none
  | .dt _ _ => none
def toPyL : List D → Option (List PyData)
  | [] => some []
  | d :: r => (toPy d).bind fun p => (toPyL r).map fun q => p :: q
end
mutual
theorem dp_of {K : PySem.W.Frag} {F : Hp} : ∀ {v : V} {d : D} {p : PyData}, RepD K F v d → toPy d = some p → Dp K F v p
  | _, .non, _, h, e => by cases h; simp [toPy] at e; subst e; exact .non
  | _, .bl b, _, h, e => by cases h; simp [toPy] at e; subst e; exact .bl b
  | _, .int b, _, h, e => by cases h; simp [toPy] at e; subst e; exact .int b
  | _, .str b, _, h, e => by cases h; simp [toPy] at e; subst e; exact .str b
  | _, .tup ds, _, h, e => by
    cases h with
    | tup s r =>
      simp only [toPy, Option.map_eq_some_iff] at e
      obtain ⟨q, e1, rfl⟩ := e
      exact .tup s (dpL_of r e1)
  | _, .lst ds, _, h, e => by
    cases h with
    | lst s r =>
      simp only [toPy, Option.map_eq_some_iff] at e
      obtain ⟨q, e1, rfl⟩ := e
      exact .lst (.inl (.inl s)) (dpL_of r e1)
  | _, .rdl ds, _, h, e => by
    cases h with
    | rdl s r =>
      simp only [toPy, Option.map_eq_some_iff] at e
      obtain ⟨q, e1, rfl⟩ := e
      exact .lst s (dpL_of r e1)
  | _, .rf _, _, _, e => by simp [toPy] at e
  | _, .dct, _, _, e => by simp [toPy] at e
  | _, .fn _, _, _, e => by simp [toPy] at e
  | _, .dk _ _, _, _, e => by simp [toPy] at e
  | _, .dt _ _, _, _, e => by simp [toPy] at e
theorem dpL_of {K : PySem.W.Frag} {F : Hp} : ∀ {vs : List V} {ds : List D} {p : List PyData}, RepL K F vs ds → toPyL ds = some p → DpAll K F vs p
  | _, [], _, h, e => by cases h; simp [toPyL] at e; subst e; exact .nil
  | _, d :: r, _, h, e => by
    cases h with
    | cons h1 h2 =>
      simp only [toPyL, Option.bind_eq_some_iff, Option.map_eq_some_iff] at e
      obtain ⟨q, e1, s, e2, rfl⟩ := e
      exact .cons (dp_of h1 e1) (dpL_of h2 e2)
end
def gEq (d e : D) : Option D := (toPy d).bind fun p => (toPy e).bind fun q => if SeqAt.shaped p = true ∧ SeqAt.shaped q = true then some (.bl (PyData.eqv p q)) else none
def gNe (d e : D) : Option D := (toPy d).bind fun p => (toPy e).bind fun q => if SeqAt.shaped p = true ∧ SeqAt.shaped q = true then some (.bl (!PyData.eqv p q)) else none
theorem vop_eqD {K : PySem.W.Frag} : VOp K (rEqD K) gEq := by
  intro F H x y a b c Q s ra rb hg q
  simp only [gEq, Option.bind_eq_some_iff] at hg
  obtain ⟨p, e1, r, e2, e3⟩ := hg
  split at e3
  · rename_i hs
    cases e3
    exact ⟨p, r, dp_of (ra.mono s) e1, dp_of (rb.mono s) e2, hs.1, hs.2, q _ F H (Ste.refl s) (.bl _)⟩
  · cases e3
theorem vop_neD {K : PySem.W.Frag} : VOp K (rNeD K) gNe := by
  intro F H x y a b c Q s ra rb hg q
  simp only [gNe, Option.bind_eq_some_iff] at hg
  obtain ⟨p, e1, r, e2, e3⟩ := hg
  split at e3
  · rename_i hs
    cases e3
    exact ⟨p, r, dp_of (ra.mono s) e1, dp_of (rb.mono s) e2, hs.1, hs.2, q _ F H (Ste.refl s) (.bl _)⟩
  · cases e3
/-- == of two scalars of one kind -/
def gEqS : D → D → Option D
  | .int i, .int j => some (.bl (decide (i = j)))
  | .str i, .str j => some (.bl (decide (i = j)))
  | .bl i, .bl j => some (.bl (decide (i = j)))
  | .non, .int _ => some (.bl false)
  | .int _, .non => some (.bl false)
  | _, _ => none
def gNeS : D → D → Option D
  | .int i, .int j => some (.bl (!decide (i = j)))
  | .str i, .str j => some (.bl (!decide (i = j)))
  | .bl i, .bl j => some (.bl (!decide (i = j)))
  | _, _ => none
theorem vop_eqS {K : PySem.W.Frag} : VOp K rEq gEqS := by
  intro F H x y a b c Q s ra rb hg q
  unfold gEqS at hg
  split at hg
  · rename_i i j
    cases hg
    rw [rep_int ra, rep_int rb]
    refine ⟨rfl, ?_⟩
    have e : decide (V.int i = V.int j) = decide (i = j) := decide_eq_decide.mpr ⟨fun h => V.int.inj h, fun h => by rw [h]⟩
    rw [e]
    exact q _ F H (Ste.refl s) (.bl _)
  · rename_i i j
    cases hg
    rw [rep_str ra, rep_str rb]
    refine ⟨rfl, ?_⟩
    have e : decide (V.str i = V.str j) = decide (i = j) := decide_eq_decide.mpr ⟨fun h => V.str.inj h, fun h => by rw [h]⟩
    rw [e]
    exact q _ F H (Ste.refl s) (.bl _)
  · rename_i i j
    cases hg
    rw [rep_bl ra, rep_bl rb]
    refine ⟨rfl, ?_⟩
    have e : decide (V.bl i = V.bl j) = decide (i = j) := decide_eq_decide.mpr ⟨fun h => V.bl.inj h, fun h => by rw [h]⟩
    rw [e]
    exact q _ F H (Ste.refl s) (.bl _)
  · rename_i j
    cases hg
    rw [rep_non ra, rep_int rb]
    refine ⟨rfl, ?_⟩
    rw [decide_eq_false (show ¬ (V.non = V.int j) from fun h => by cases h)]
    exact q _ F H (Ste.refl s) (.bl _)
  · rename_i j
    cases hg
    rw [rep_int ra, rep_non rb]
    refine ⟨rfl, ?_⟩
    rw [decide_eq_false (show ¬ (V.int j = V.non) from fun h => by cases h)]
    exact q _ F H (Ste.refl s) (.bl _)
  · cases hg
theorem vop_neS {K : PySem.W.Frag} : VOp K rNe gNeS := by
  intro F H x y a b c Q s ra rb hg q
  unfold gNeS at hg
  split at hg
  · rename_i i j
    cases hg
    rw [rep_int ra, rep_int rb]
    refine ⟨rfl, ?_⟩
    have e : decide (V.int i = V.int j) = decide (i = j) := decide_eq_decide.mpr ⟨fun h => V.int.inj h, fun h => by rw [h]⟩
    rw [e]
    exact q _ F H (Ste.refl s) (.bl _)
  · rename_i i j
    cases hg
    rw [rep_str ra, rep_str rb]
    refine ⟨rfl, ?_⟩
    have e : decide (V.str i = V.str j) = decide (i = j) := decide_eq_decide.mpr ⟨fun h => V.str.inj h, fun h => by rw [h]⟩
    rw [e]
    exact q _ F H (Ste.refl s) (.bl _)
  · rename_i i j
    cases hg
    rw [rep_bl ra, rep_bl rb]
    refine ⟨rfl, ?_⟩
    have e : decide (V.bl i = V.bl j) = decide (i = j) := decide_eq_decide.mpr ⟨fun h => V.bl.inj h, fun h => by rw [h]⟩
    rw [e]
    exact q _ F H (Ste.refl s) (.bl _)
  · cases hg
/-- is None -/
def gIsN (neg : Bool) : D → D → Option D
  | .rf _, _ => none
  | .non, .non => some (.bl (!neg))
  | _, .non => some (.bl neg)
  | _, _ => none
theorem isn_val {K : PySem.W.Frag} {F : Hp} {v : V} {d : D} (h : RepD K F v d) (h1 : ∀ x, d ≠ .rf x) (h2 : d ≠ .non) : v ≠ .non := by
  cases h with
  | non => exact absurd rfl h2
  | rf v => exact absurd rfl (h1 v)
  | bl b => exact fun z => by cases z
  | int b => exact fun z => by cases z
  | str b => exact fun z => by cases z
  | tup a b => exact fun z => by cases z
  | lst a b => exact fun z => by cases z
  | rdl a b => exact fun z => by cases z
  | dct a => exact fun z => by cases z
  | fn a => exact fun z => by cases z
  | dk a b c => exact fun z => by cases z
  | dt a b c => exact fun z => by cases z
theorem vop_isN {K : PySem.W.Frag} : VOp K (fun x y H Q => y = .non ∧ Q (.bl (decide (x = .non))) H) (gIsN false) := by
  intro F H x y a b c Q s ra rb hg q
  unfold gIsN at hg
  split at hg
  · cases hg
  · cases hg
    refine ⟨rep_non rb, ?_⟩
    rw [rep_non ra]
    exact q _ F H (Ste.refl s) (.bl _)
  · rename_i n1 n2
    cases hg
    refine ⟨rep_non rb, ?_⟩
    rw [decide_eq_false (isn_val ra (fun x z => n1 x z) (fun z => n2 z))]
    exact q _ F H (Ste.refl s) (.bl _)
  · cases hg
theorem vop_notN {K : PySem.W.Frag} : VOp K (fun x y H Q => y = .non ∧ Q (.bl (!decide (x = .non))) H) (gIsN true) := by
  intro F H x y a b c Q s ra rb hg q
  unfold gIsN at hg
  split at hg
  · cases hg
  · cases hg
    refine ⟨rep_non rb, ?_⟩
    rw [rep_non ra]
    exact q _ F H (Ste.refl s) (.bl _)
  · rename_i n1 n2
    cases hg
    refine ⟨rep_non rb, ?_⟩
    rw [decide_eq_false (isn_val ra (fun x z => n1 x z) (fun z => n2 z))]
    exact q _ F H (Ste.refl s) (.bl _)
  · cases hg
/-! ### in -/
def flatToV : D → Option V
  | .non => some .non
  | .bl b => some (.bl b)
  | .int i => some (.int i)
  | .str x => some (.str x)
  | _ => none
def flatToVs : List D → Option (List V)
  | [] => some []
  | d :: r => (flatToV d).bind fun p => (flatToVs r).map fun q => p :: q
theorem flat_eq {K : PySem.W.Frag} {F : Hp} {v w : V} {d : D} (h : RepD K F v d) (e : flatToV d = some w) : v = w ∧ flatV w = true := by
  cases h <;> simp [flatToV] at e <;> subst e <;> exact ⟨rfl, rfl⟩
theorem flats_eq {K : PySem.W.Frag} {F : Hp} : ∀ {vs ws : List V} {ds : List D}, RepL K F vs ds → flatToVs ds = some ws → vs = ws ∧ ws.all flatV = true
  | _, _, [], h, e => by cases h; simp [flatToVs] at e; subst e; exact ⟨rfl, rfl⟩
  | _, _, d :: r, h, e => by
    cases h with
    | cons h1 h2 =>
      simp only [flatToVs, Option.bind_eq_some_iff, Option.map_eq_some_iff] at e
      obtain ⟨q, e1, s, e2, rfl⟩ := e
      obtain ⟨a, b⟩ := flat_eq h1 e1
      obtain ⟨c, d⟩ := flats_eq h2 e2
      exact ⟨by rw [a, c], by simp [b, d]⟩
def seqOf : D → Option (List D)
  | .tup ds => some ds
  | .lst ds => some ds
  | .rdl ds => some ds
  | _ => none
theorem rep_seq {K : PySem.W.Frag} {F : Hp} {v : V} {d : D} {ds : List D} (h : RepD K F v d) (e : seqOf d = some ds) : ∃ a xs, v = .ref a ∧ (SqL K F a xs ∨ SqT K F a xs) ∧ RepL K F xs ds := by
  cases h with
  | tup a b => simp [seqOf] at e; subst e; exact ⟨_, _, rfl, .inr a, b⟩
  | lst a b => simp [seqOf] at e; subst e; exact ⟨_, _, rfl, .inl (.inl (.inl a)), b⟩
  | rdl a b => simp [seqOf] at e; subst e; exact ⟨_, _, rfl, .inl a, b⟩
  | _ => simp [seqOf] at e
theorem seq_up {K : PySem.W.Frag} {F H : Hp} {a : Addr} {xs : List V} (s : Same F H) (h : SqL K F a xs ∨ SqT K F a xs) : SqL K H a xs ∨ SqT K H a xs := by
  rcases h with h | h
  · exact .inl (Same.seq s h)
  · exact .inr (seqT s h)
def gIn (neg : Bool) (d e : D) : Option D := (flatToV d).bind fun x => (seqOf e).bind fun es => (flatToVs es).map fun ws => .bl (if neg then !inV x ws else inV x ws)
theorem vop_in {K : PySem.W.Frag} (neg : Bool) : VOp K (rIn K neg) (gIn neg) := by
  intro F H x y a b c Q s ra rb hg q
  simp only [gIn, Option.bind_eq_some_iff, Option.map_eq_some_iff] at hg
  obtain ⟨v, e1, es, e2, ws, e3, rfl⟩ := hg
  obtain ⟨p, xs, rfl, h, r⟩ := rep_seq rb e2
  obtain ⟨h1, h2⟩ := flat_eq ra e1
  obtain ⟨h3, h4⟩ := flats_eq r e3
  subst h1 h3
  exact ⟨p, xs, rfl, seq_up s h, h2, h4, q _ F H (Ste.refl s) (.bl _)⟩
/-! ### subscripts, slices -/
def gIx : D → D → Option D
  | .str z, .int i => if z.length ≤ 1000000 then (atI z.cps.toList i).map fun c => .str ⟨#[c]⟩ else none
  | d, .int i => (seqOf d).bind fun ds => atI ds i
  | _, _ => none
theorem atI_rep {K : PySem.W.Frag} {F : Hp} {xs : List V} {ds : List D} {i : Int} {d : D} (r : RepL K F xs ds) (h : atI ds i = some d) : ∃ v, atI xs i = some v ∧ RepD K F v d := by
  unfold atI at h ⊢
  rw [r.length]
  cases e : ixN ds.length i with
  | none => rw [e] at h; cases h
  | some j =>
    rw [e] at h
    exact r.get h
theorem vop_ix {K : PySem.W.Frag} : VOp K (rIx K) gIx := by
  intro F H x y a b c Q s ra rb hg q
  unfold gIx at hg
  split at hg
  · rename_i z i
    split at hg
    · rename_i hz
      simp only [Option.map_eq_some_iff] at hg
      obtain ⟨cp, e1, rfl⟩ := hg
      exact .inr (.inr ⟨z, i, cp, rep_str ra, rep_int rb, line_big hz, e1, q _ F H (Ste.refl s) (.str _)⟩)
    · cases hg
  · rename_i i hn
    simp only [Option.bind_eq_some_iff] at hg
    obtain ⟨ds, e1, e2⟩ := hg
    obtain ⟨p, xs, rfl, h, r⟩ := rep_seq ra e1
    obtain ⟨v, h1, h2⟩ := atI_rep r e2
    rcases seq_up s h with h | h
    · exact .inl ⟨p, xs, i, v, rfl, rep_int rb, h, h1, q _ F H (Ste.refl s) h2⟩
    · exact .inr (.inl ⟨p, xs, i, v, rfl, rep_int rb, h, h1, q _ F H (Ste.refl s) h2⟩)
  · cases hg
section
variable {X : Cx} {C : Ct} {W : WX} {a b c e : Expr} {pos : Pos} {f g h : Mo D}
theorem ev_eq (hu : X.A.units + 64 < cLine) (ha : EvD X C W a f) (hb : EvD X C W b g) : EvD X C W (.Compare a [.Eq] [b] pos) (mOp gEq f g) := ev_cmp (op_eqD hu) (nomark _) vop_eqD ha hb
theorem ev_ne (hu : X.A.units + 64 < cLine) (ha : EvD X C W a f) (hb : EvD X C W b g) : EvD X C W (.Compare a [.NotEq] [b] pos) (mOp gNe f g) := ev_cmp (op_neD hu) (nomark _) vop_neD ha hb
theorem ev_eqS (ha : EvD X C W a f) (hb : EvD X C W b g) : EvD X C W (.Compare a [.Eq] [b] pos) (mOp gEqS f g) := ev_cmp op_eq (nomark _) vop_eqS ha hb
theorem ev_neS (ha : EvD X C W a f) (hb : EvD X C W b g) : EvD X C W (.Compare a [.NotEq] [b] pos) (mOp gNeS f g) := ev_cmp op_ne (nomark _) vop_neS ha hb
theorem ev_isN (ha : EvD X C W a f) (hb : EvD X C W b g) : EvD X C W (.Compare a [.Is] [b] pos) (mOp (gIsN false) f g) := ev_cmp op_isN (nomark _) vop_isN ha hb
theorem ev_notN (ha : EvD X C W a f) (hb : EvD X C W b g) : EvD X C W (.Compare a [.IsNot] [b] pos) (mOp (gIsN true) f g) := ev_cmp op_notN (nomark _) vop_notN ha hb
theorem ev_in (hm : behindInMarks .In b = false) (ha : EvD X C W a f) (hb : EvD X C W b g) : EvD X C W (.Compare a [.In] [b] pos) (mOp (gIn false) f g) := ev_cmp op_in_seq hm (vop_in false) ha hb
theorem ev_notIn (hm : behindInMarks .NotIn b = false) (ha : EvD X C W a f) (hb : EvD X C W b g) : EvD X C W (.Compare a [.NotIn] [b] pos) (mOp (gIn true) f g) := ev_cmp op_notIn_seq hm (vop_in true) ha hb
theorem ev_item (hm : PlainIx b) (ha : EvD X C W a f) (hb : EvD X C W b g) : EvD X C W (.Subscript a b pos) (mOp gIx f g) := ev_ix ix_seq hm vop_ix ha hb fun _ _ p1 p2 => pe_ix ix_seq p1 p2 hm
def VO (K : PySem.W.Frag) (C : Ct) (W : WX) (to : TO) (f : Mo (Option Int)) : Prop := ∀ F H σ ε Q, Rep K C F H σ ε → Good (f ε) (fun o ε' => ∀ F' H', Rep K C F' H' σ ε' → Stp σ ε ε' F H F' H' → Q o H') (ExP K C W F H σ ε) → to σ H Q
def EoD (X : Cx) (C : Ct) (W : WX) (e : Option Expr) (f : Mo (Option Int)) : Prop := ∃ to, PO X e to ∧ VO X.K C W to f
def asI : D → Option Int
  | .int i => some i
  | _ => none
theorem eo_none : EoD X C W none (pur none) := ⟨_, po_none, fun F H σ ε Q R q => q F H R Stp.refl⟩
theorem eo_some {e : Expr} (h : EvD X C W e f) : EoD X C W (some e) (bnd f fun d => lft ((asI d).map some)) := by
  obtain ⟨te, p1, s1⟩ := h
  refine ⟨_, po_some p1, fun F H σ ε Q R q => ?_⟩
  refine s1 F H σ ε _ R (q.bind.imp (fun d e q1 v F1 H1 R1 st1 r1 => ?_) fun x e z => z)
  cases d with
  | int i => exact ⟨i, rep_int r1, q1 F1 H1 R1 st1⟩
  | _ => exact q1.elim
def cutD (ds : List D) (lo hi : Option Int) : List D := (ds.drop (HT.sIx ds.length 0 lo)).take (HT.sIx ds.length ds.length hi - HT.sIx ds.length 0 lo)
theorem rep_cut {K : PySem.W.Frag} {F : Hp} {xs : List V} {ds : List D} (r : RepL K F xs ds) (lo hi : Option Int) : RepL K F (cutV xs lo hi) (cutD ds lo hi) := by
  unfold cutV cutD
  rw [r.length]
  exact (r.drop _).take _
def gSlL : D → Option Int → Option Int → Option D
  | .lst ds, lo, hi => some (.lst (cutD ds lo hi))
  | .rdl ds, lo, hi => some (.lst (cutD ds lo hi))
  | _, _, _ => none
def gSlT : D → Option Int → Option Int → Option D
  | .tup ds, lo, hi => some (.tup (cutD ds lo hi))
  | _, _, _ => none
def gSlS : D → Option Int → Option Int → Option D
  | .str z, lo, hi => if z.length ≤ 1000000 then some (.str (cutS z lo hi)) else none
  | _, _, _ => none
def VSl (K : PySem.W.Frag) (r : V → Option Int → Option Int → Hp → VK → Prop) (g : D → Option Int → Option Int → Option D) : Prop := ∀ F H x a lo hi c Q, Same F H → RepD K F x a → g a lo hi = some c → (∀ v F' H', Ste F H F' H' → RepD K F' v c → Q v H') → r x lo hi H Q
def mSl (g : D → Option Int → Option Int → Option D) (f : Mo D) (fl fh : Mo (Option Int)) : Mo D := bnd f fun d => bnd fl fun lo => bnd fh fun hi => lft (g d lo hi)
theorem ev_sl {r : V → Option Int → Option Int → Hp → VK → Prop} {g : D → Option Int → Option Int → Option D} {lo hi : Option Expr} {fl fh : Mo (Option Int)} {p2 : Pos} (hr : SlR X r) (hv : VSl X.K r g) (ha : EvD X C W a f) (hl : EoD X C W lo fl) (hh : EoD X C W hi fh) :
    EvD X C W (.Subscript a (.Slice lo hi none p2) pos) (mSl g f fl fh) := by
  obtain ⟨ta, p0, s0⟩ := ha
  obtain ⟨tl, p1, s1⟩ := hl
  obtain ⟨th, p2', s2⟩ := hh
  refine ⟨_, pe_slice hr p0 p1 p2', fun F H σ ε Q R q => ?_⟩
  refine s0 F H σ ε _ R (q.bind.imp (fun d e q1 v F1 H1 R1 st1 r1 => ?_) fun x e z => z)
  refine s1 F1 H1 σ e _ R1 (q1.bind.imp (fun l e2 q2 F2 H2 R2 st2 => ?_) fun x e z => z.imp st1)
  refine s2 F2 H2 σ e2 _ R2 (q2.bind.imp (fun u e3 q3 F3 H3 R3 st3 => ?_) fun x e z => z.imp (st1.trans st2))
  unfold lft at q3
  cases hg : g d l u with
  | none => rw [hg] at q3; exact q3.elim
  | some c =>
    rw [hg] at q3
    exact hv F3 H3 v d l u c Q R3.fh ((r1.mono st2.ff).mono st3.ff) hg fun w F4 H4 st4 r4 => q3 w F4 H4 (R3.step st4) (((st1.trans st2).trans st3).trans st4.stp) r4
theorem vsl_list {K : PySem.W.Frag} : VSl K (rSlL K) gSlL := by
  intro F H x a lo hi c Q s r hg q
  unfold gSlL at hg
  split at hg
  · cases hg
    obtain ⟨p, xs, rfl, h, r2⟩ := rep_lst r
    refine ⟨p, xs, rfl, .inl (.inl (s _ _ h)), fun l hl => ?_⟩
    have st := Ste.laid (o := .lst (cutV xs lo hi)) s hl
    exact q _ _ _ st (.lst upd_same ((rep_cut r2 lo hi).mono st.ff))
  · cases hg
    obtain ⟨p, xs, rfl, h, r2⟩ := rep_rdl r
    refine ⟨p, xs, rfl, Same.seq s h, fun l hl => ?_⟩
    have st := Ste.laid (o := .lst (cutV xs lo hi)) s hl
    exact q _ _ _ st (.lst upd_same ((rep_cut r2 lo hi).mono st.ff))
  · cases hg
theorem cut_whole {ds : List D} {lo hi : Option Int} (h : HT.sIx ds.length 0 lo = 0 ∧ HT.sIx ds.length ds.length hi = ds.length) : cutD ds lo hi = ds := by
  unfold cutD
  rw [h.1, h.2]
  simp
theorem vsl_tup {K : PySem.W.Frag} : VSl K (rSlA K) gSlT := by
  intro F H x a lo hi c Q s r hg q
  unfold gSlT at hg
  split at hg
  · cases hg
    obtain ⟨p, xs, rfl, h, r2⟩ := rep_tup r
    refine ⟨p, xs, rfl, seqT s h, fun hw => ?_, fun hw l hl => ?_⟩
    · rw [r2.length] at hw
      rw [cut_whole hw] at q
      exact q _ F H (Ste.refl s) (.tup h r2)
    · have st := Ste.laid (o := .tup (cutV xs lo hi)) s hl
      exact q _ _ _ st (.tup (.inl (.inl upd_same)) ((rep_cut r2 lo hi).mono st.ff))
  · cases hg
theorem vsl_str {K : PySem.W.Frag} : VSl K rSlS gSlS := by
  intro F H x a lo hi c Q s r hg q
  unfold gSlS at hg
  split at hg
  · split at hg
    · rename_i hz
      cases hg
      exact ⟨_, rep_str r, line_big hz, q _ F H (Ste.refl s) (.str _)⟩
    · cases hg
  · cases hg
end
/-! ### + of texts, lists, tuples -/
def gCatS : D → D → Option D
  | .str a, .str b => if a.length + b.length ≤ 1000000 then some (.str (a ++ b)) else none
  | _, _ => none
def gCatL : D → D → Option D
  | .lst a, .lst b => if a.length + b.length ≤ 1000000 then some (.lst (a ++ b)) else none
  | _, _ => none
def gCatT : D → D → Option D
  | .tup a, .tup b => if a.length + b.length ≤ 1000000 then some (.tup (a ++ b)) else none
  | _, _ => none
theorem vop_catS {K : PySem.W.Frag} : VOp K (fun x y H Q => ∃ i j, x = .str i ∧ y = .str j ∧ i.length + j.length ≤ sizeLine ∧ Q (.str (i ++ j)) H) gCatS := by
  intro F H x y a b c Q s ra rb hg q
  unfold gCatS at hg
  split at hg
  · split at hg
    · rename_i hz
      cases hg
      exact ⟨_, _, rep_str ra, rep_str rb, line_big hz, q _ F H (Ste.refl s) (.str _)⟩
    · cases hg
  · cases hg
theorem vop_catL {K : PySem.W.Frag} : VOp K rCat gCatL := by
  intro F H x y a b c Q s ra rb hg q
  unfold gCatL at hg
  split at hg
  · split at hg
    · rename_i hz
      cases hg
      obtain ⟨p, xs, rfl, h, r⟩ := rep_lst ra
      obtain ⟨p2, xs2, rfl, h2, r2⟩ := rep_lst rb
      refine ⟨p, p2, xs, xs2, rfl, rfl, s _ _ h, s _ _ h2, by rw [r.length, r2.length]; exact line_big hz, fun l hl => ?_⟩
      have st := Ste.laid (o := .lst (xs ++ xs2)) s hl
      exact q _ _ _ st (.lst upd_same ((r.append r2).mono st.ff))
    · cases hg
  · cases hg
theorem vop_catT {K : PySem.W.Frag} : VOp K (rCatA K) gCatT := by
  intro F H x y a b c Q s ra rb hg q
  unfold gCatT at hg
  split at hg
  · split at hg
    · rename_i hz
      cases hg
      obtain ⟨p, xs, rfl, h, r⟩ := rep_tup ra
      obtain ⟨p2, xs2, rfl, h2, r2⟩ := rep_tup rb
      refine ⟨p, p2, xs, xs2, rfl, rfl, seqT s h, seqT s h2, by rw [r.length, r2.length]; exact line_big hz, fun e => ?_, fun _ e => ?_, fun _ _ l hl => ?_⟩
      · subst e
        cases r
        exact q _ F H (Ste.refl s) (.tup h2 r2)
      · subst e
        cases r2
        rw [List.append_nil] at q
        exact q _ F H (Ste.refl s) (.tup h r)
      · have st := Ste.laid (o := .tup (xs ++ xs2)) s hl
        exact q _ _ _ st (.tup (.inl (.inl upd_same)) ((r.append r2).mono st.ff))
    · cases hg
  · cases hg
/-! ### built-ins -/
def gInt : D → Option D
  | .int i => some (.int i)
  | .bl b => some (.int (if b then 1 else 0))
  | _ => none
def gAbs : D → Option D
  | .int i => some (.int (if i < 0 then -i else i))
  | _ => none
def gMin2 := gI (fun _ _ => true) fun i j => .int (if j < i then j else i)
def gMax2 := gI (fun _ _ => true) fun i j => .int (if j > i then j else i)
def gStr : D → Option D
  | .int i => if i.natAbs.log2 < 1920 then some (.str (toString i)) else none
  | _ => none
def gTuple : D → Option D
  | .lst ds => some (.tup ds)
  | .rdl ds => some (.tup ds)
  | .tup ds => some (.tup ds)
  | _ => none
def gList : D → Option D
  | .lst ds => some (.lst ds)
  | .rdl ds => some (.lst ds)
  | .tup ds => some (.lst ds)
  | _ => none
theorem one_of {K : PySem.W.Frag} {F : Hp} {xs : List V} {ds : List D} {h : D → Option D} {c : D} (r : RepL K F xs ds) (hg : gOne h ds = some c) : ∃ x d, xs = [x] ∧ ds = [d] ∧ RepD K F x d ∧ h d = some c := by
  unfold gOne at hg
  split at hg
  · cases r with
    | cons r1 r2 => cases r2; exact ⟨_, _, rfl, rfl, r1, hg⟩
  · cases hg
theorem two_of {K : PySem.W.Frag} {F : Hp} {xs : List V} {ds : List D} {h : D → D → Option D} {c : D} (r : RepL K F xs ds) (hg : gTwo h ds = some c) : ∃ x y d e, xs = [x, y] ∧ ds = [d, e] ∧ RepD K F x d ∧ RepD K F y e ∧ h d e = some c := by
  unfold gTwo at hg
  split at hg
  · cases r with
    | cons r1 r2 => cases r2 with
      | cons r2 r3 => cases r3; exact ⟨_, _, _, _, rfl, rfl, r1, r2, hg⟩
  · cases hg
theorem gI_of {p : Int → Int → Bool} {h : Int → Int → D} {d e c : D} (hg : gI p h d e = some c) : ∃ i j, d = .int i ∧ e = .int j ∧ p i j = true ∧ c = h i j := by
  unfold gI at hg
  split at hg
  · split at hg
    · rename_i hp; cases hg; exact ⟨_, _, rfl, rfl, hp, rfl⟩
    · cases hg
  · cases hg
section
variable {K : PySem.W.Frag}
theorem vc_int : VCall K (fun xs H Q => (∃ i, xs = [.int i] ∧ Q (.int i) H) ∨ ∃ k, xs = [.bl k] ∧ Q (.int (if k then 1 else 0)) H) (gOne gInt) := by
  intro F H xs ds c Q s r hg q
  obtain ⟨x, d, rfl, rfl, rd, hd⟩ := one_of r hg
  unfold gInt at hd
  split at hd
  · cases hd; exact .inl ⟨_, by rw [rep_int rd], q _ F H (Ste.refl s) (.int _)⟩
  · cases hd; exact .inr ⟨_, by rw [rep_bl rd], q _ F H (Ste.refl s) (.int _)⟩
  · cases hd
theorem vc_abs : VCall K (fun xs H Q => ∃ i, xs = [.int i] ∧ Q (.int (if i < 0 then -i else i)) H) (gOne gAbs) := by
  intro F H xs ds c Q s r hg q
  obtain ⟨x, d, rfl, rfl, rd, hd⟩ := one_of r hg
  unfold gAbs at hd
  split at hd
  · cases hd; exact ⟨_, by rw [rep_int rd], q _ F H (Ste.refl s) (.int _)⟩
  · cases hd
theorem vc_min2 : VCall K (fun xs H Q => ∃ i j, xs = [.int i, .int j] ∧ Q (.int (if j < i then j else i)) H) (gTwo gMin2) := by
  intro F H xs ds c Q s r hg q
  obtain ⟨x, y, d, e, rfl, rfl, rd, re, hd⟩ := two_of r hg
  obtain ⟨i, j, rfl, rfl, _, rfl⟩ := gI_of hd
  exact ⟨i, j, by rw [rep_int rd, rep_int re], q _ F H (Ste.refl s) (.int _)⟩
theorem vc_max2 : VCall K (fun xs H Q => ∃ i j, xs = [.int i, .int j] ∧ Q (.int (if j > i then j else i)) H) (gTwo gMax2) := by
  intro F H xs ds c Q s r hg q
  obtain ⟨x, y, d, e, rfl, rfl, rd, re, hd⟩ := two_of r hg
  obtain ⟨i, j, rfl, rfl, _, rfl⟩ := gI_of hd
  exact ⟨i, j, by rw [rep_int rd, rep_int re], q _ F H (Ste.refl s) (.int _)⟩
theorem vc_str : VCall K (fun xs H Q => ∃ i, xs = [.int i] ∧ i.natAbs.log2 < 1920 ∧ Q (.str (toString i)) H) (gOne gStr) := by
  intro F H xs ds c Q s r hg q
  obtain ⟨x, d, rfl, rfl, rd, hd⟩ := one_of r hg
  unfold gStr at hd
  split at hd
  · split at hd
    · rename_i hz; cases hd; exact ⟨_, by rw [rep_int rd], hz, q _ F H (Ste.refl s) (.str _)⟩
    · cases hd
  · cases hd
theorem vc_tuple : VCall K (fun xs H Q => ∃ p ys, xs = [.ref p] ∧ ((SqL K H p ys ∧ ∀ l, H l = none → Q (.ref l) (upd H l (.tup ys))) ∨ (SqT K H p ys ∧ Q (.ref p) H))) (gOne gTuple) := by
  intro F H xs ds c Q s r hg q
  obtain ⟨x, d, rfl, rfl, rd, hd⟩ := one_of r hg
  unfold gTuple at hd
  split at hd
  · cases hd
    obtain ⟨p, xs, rfl, h, r⟩ := rep_seqs rd
    refine ⟨p, xs, rfl, .inl ⟨Same.seq s h, fun l hl => ?_⟩⟩
    have st := Ste.laid (o := .tup xs) s hl
    exact q _ _ _ st (.tup (.inl (.inl upd_same)) (r.mono st.ff))
  · cases hd
    obtain ⟨p, xs, rfl, h, r⟩ := rep_rdl rd
    refine ⟨p, xs, rfl, .inl ⟨Same.seq s h, fun l hl => ?_⟩⟩
    have st := Ste.laid (o := .tup xs) s hl
    exact q _ _ _ st (.tup (.inl (.inl upd_same)) (r.mono st.ff))
  · cases hd
    obtain ⟨p, xs, rfl, h, r⟩ := rep_tup rd
    exact ⟨p, xs, rfl, .inr ⟨seqT s h, q _ F H (Ste.refl s) rd⟩⟩
  · cases hd
theorem vc_list : VCall K (fun xs H Q => ∃ p ys, xs = [.ref p] ∧ (SqL K H p ys ∨ SqT K H p ys) ∧ ∀ l, H l = none → Q (.ref l) (upd H l (.lst ys))) (gOne gList) := by
  intro F H xs ds c Q s r hg q
  obtain ⟨x, d, rfl, rfl, rd, hd⟩ := one_of r hg
  obtain ⟨es, he, hc⟩ : ∃ es, seqOf d = some es ∧ c = .lst es := by
    unfold gList at hd
    split at hd <;> cases hd <;> exact ⟨_, rfl, rfl⟩
  subst hc
  obtain ⟨p, xs, rfl, h, r⟩ := rep_seq rd he
  refine ⟨p, xs, rfl, seq_up s h, fun l hl => ?_⟩
  have st := Ste.laid (o := .lst xs) s hl
  exact q _ _ _ st (.lst upd_same (r.mono st.ff))
/-! isinstance(x, T), T of the built-ins -/
def tyName : D → Option String
  | .non => some "NoneType" | .bl _ => some "bool" | .int _ => some "int" | .str _ => some "str" | .tup _ => some "tuple" | .lst _ => some "list" | .rdl _ => some "list" | .dct => some "dict" | .dk _ _ => some "dict" | .dt _ _ => some "dict" | .fn _ => none | .rf _ => none
theorem ty_of {F H : Hp} {v : V} {d : D} {n : String} (s : Same F H) (r : RepD K F v d) (e : tyName d = some n) : TyX K H v (.type n) := by
  cases r with
  | non => cases e; exact .base .non
  | bl b => cases e; exact .base (.bl b)
  | int b => cases e; exact .base (.int b)
  | str b => cases e; exact .base (.str b)
  | tup h _ =>
    cases e
    rcases seqT s h with (h | ⟨o, h⟩) | ⟨o, _, _, h, c, _⟩
    · exact .base (.tup h)
    · exact .fTuple h
    · exact .kTuple h c
  | lst h _ => cases e; exact .base (.lst (s _ _ h))
  | rdl h _ =>
    cases e
    rcases Same.seq s h with (h | ⟨o, h⟩) | ⟨o, _, _, h, c, _⟩
    · exact .base (.lst h)
    · exact .base (.frz h)
    · exact .kList h c
  | dct h => cases e; exact .base (.dK (s _ _ h))
  | fn h => cases e
  | dk h _ _ => cases e; exact .base (.dK (s _ _ h))
  | dt h _ _ => cases e; exact .base (.dT (s _ _ h))
  | rf v => cases e
def gIsi : List D → Option D
  | [d, .rf (.ty n)] => (tyName d).bind fun t => (kitB t n).map .bl
  | _ => none
theorem vc_isi : VCall K (rIsi K) gIsi := by
  intro F H xs ds c Q s r hg q
  unfold gIsi at hg
  split at hg
  · simp only [Option.bind_eq_some_iff, Option.map_eq_some_iff] at hg
    obtain ⟨t, e1, b, e2, rfl⟩ := hg
    cases r with
    | cons r1 r2 => cases r2 with
      | cons r2 r3 =>
        cases r3
        cases r2
        exact ⟨_, _, _, _, b, rfl, .ty _, ty_of s r1 e1, kit_ty e2, q _ F H (Ste.refl s) (.bl b)⟩
  · cases hg
/-! sorted, max, min of lists of ints -/
def intsOf : List D → Option (List Int)
  | [] => some []
  | .int i :: r => (intsOf r).map fun q => i :: q
  | _ => none
theorem ints_eq : ∀ {ds : List D} {ns : List Int}, intsOf ds = some ns → ds = ns.map D.int
  | [], _, e => by simp [intsOf] at e; subst e; rfl
  | .int i :: r, _, e => by
    simp only [intsOf, Option.map_eq_some_iff] at e
    obtain ⟨q, e1, rfl⟩ := e
    rw [ints_eq e1]; rfl
  | .non :: r, _, e => by simp [intsOf] at e
  | .bl _ :: r, _, e => by simp [intsOf] at e
  | .str _ :: r, _, e => by simp [intsOf] at e
  | .tup _ :: r, _, e => by simp [intsOf] at e
  | .lst _ :: r, _, e => by simp [intsOf] at e
  | .rdl _ :: r, _, e => by simp [intsOf] at e
  | .rf _ :: r, _, e => by simp [intsOf] at e
  | .dct :: r, _, e => by simp [intsOf] at e
  | .fn _ :: r, _, e => by simp [intsOf] at e
  | .dk _ _ :: r, _, e => by simp [intsOf] at e
  | .dt _ _ :: r, _, e => by simp [intsOf] at e
def listInts : D → Option (List Int)
  | .lst ds => intsOf ds
  | .rdl ds => intsOf ds
  | _ => none
theorem list_ints {F : Hp} {v : V} {d : D} {ns : List Int} (r : RepD K F v d) (e : listInts d = some ns) : ∃ a, v = .ref a ∧ SqL K F a (ns.map V.int) := by
  cases r with
  | lst h r => have := ints_eq e; subst this; rw [RepL.ints r] at h; exact ⟨_, rfl, .inl (.inl h)⟩
  | rdl h r => have := ints_eq e; subst this; rw [RepL.ints r] at h; exact ⟨_, rfl, h⟩
  | _ => cases e
def ins1 (x : Int) : List Int → List Int
  | [] => [x]
  | y :: r => if x ≤ y then x :: y :: r else y :: ins1 x r
def sortI : List Int → List Int
  | [] => []
  | x :: r => ins1 x (sortI r)
theorem ins1_perm (x : Int) : ∀ l, (ins1 x l).Perm (x :: l)
  | [] => .refl _
  | y :: r => by
    unfold ins1
    split
    · exact .refl _
    · exact ((ins1_perm x r).cons y).trans (.swap x y r)
theorem sortI_perm : ∀ l, (sortI l).Perm l
  | [] => .refl _
  | x :: r => (ins1_perm x (sortI r)).trans ((sortI_perm r).cons x)
theorem ins1_pw (x : Int) : ∀ l, l.Pairwise (· ≤ ·) → (ins1 x l).Pairwise (· ≤ ·)
  | [], _ => by simp [ins1]
  | y :: r, h => by
    have h1 := List.pairwise_cons.mp h
    unfold ins1
    split
    · rename_i hxy
      refine List.pairwise_cons.mpr ⟨fun z hz => ?_, h⟩
      rcases List.mem_cons.mp hz with e | e
      · rw [e]; exact hxy
      · exact Int.le_trans hxy (h1.1 z e)
    · rename_i hxy
      refine List.pairwise_cons.mpr ⟨fun z hz => ?_, ins1_pw x r h1.2⟩
      rcases List.mem_cons.mp ((ins1_perm x r).mem_iff.mp hz) with e | e
      · rw [e]; omega
      · exact h1.1 z e
theorem sortI_pw : ∀ l, (sortI l).Pairwise (· ≤ ·)
  | [] => .nil
  | x :: r => ins1_pw x _ (sortI_pw r)
def gSorted (d : D) : Option D := (listInts d).map fun ns => .lst ((sortI ns).map D.int)
theorem vc_sorted : VCall K (fun vs H Q => ∃ (a : Addr) (ns : List Int), vs = [V.ref a] ∧ SqL K H a (ns.map V.int) ∧ ∀ (ns' : List Int) (p : Addr), ns'.Perm ns → ns'.Pairwise (· ≤ ·) → H p = none → Q (.ref p) (upd H p (.lst (ns'.map V.int)))) (gOne gSorted) := by
  intro F H xs ds c Q s r hg q
  obtain ⟨x, d, rfl, rfl, rd, hd⟩ := one_of r hg
  simp only [gSorted, Option.map_eq_some_iff] at hd
  obtain ⟨ns, e1, rfl⟩ := hd
  obtain ⟨a, rfl, h⟩ := list_ints rd e1
  refine ⟨a, ns, rfl, Same.seq s h, fun ns' p h1 h2 h3 => ?_⟩
  have e : ns' = sortI ns := PySem.W.ksm_same (h1.trans (sortI_perm ns).symm) h2 (sortI_pw ns)
  subst e
  have st := Ste.laid (o := .lst ((sortI ns).map V.int)) s h3
  exact q _ _ _ st (.lst upd_same (RepL.of_ints _))
def maxI : List Int → Int
  | [] => 0
  | [x] => x
  | x :: r => if maxI r > x then maxI r else x
def minI : List Int → Int
  | [] => 0
  | [x] => x
  | x :: r => if minI r < x then minI r else x
theorem maxI_spec : ∀ l : List Int, l ≠ [] → maxI l ∈ l ∧ ∀ y ∈ l, y ≤ maxI l
  | [], h => absurd rfl h
  | [x], _ => by simp [maxI]
  | x :: y :: r, _ => by
    have ih := maxI_spec (y :: r) (by simp)
    have e : maxI (x :: y :: r) = if maxI (y :: r) > x then maxI (y :: r) else x := rfl
    rw [e]
    split
    · rename_i h
      exact ⟨List.mem_cons_of_mem _ ih.1, fun z hz => by
        rcases List.mem_cons.mp hz with q | q
        · omega
        · exact ih.2 z q⟩
    · rename_i h
      exact ⟨List.mem_cons_self, fun z hz => by
        rcases List.mem_cons.mp hz with q | q
        · omega
        · have := ih.2 z q; omega⟩
theorem minI_spec : ∀ l : List Int, l ≠ [] → minI l ∈ l ∧ ∀ y ∈ l, minI l ≤ y
  | [], h => absurd rfl h
  | [x], _ => by simp [minI]
  | x :: y :: r, _ => by
    have ih := minI_spec (y :: r) (by simp)
    have e : minI (x :: y :: r) = if minI (y :: r) < x then minI (y :: r) else x := rfl
    rw [e]
    split
    · rename_i h
      exact ⟨List.mem_cons_of_mem _ ih.1, fun z hz => by
        rcases List.mem_cons.mp hz with q | q
        · omega
        · exact ih.2 z q⟩
    · rename_i h
      exact ⟨List.mem_cons_self, fun z hz => by
        rcases List.mem_cons.mp hz with q | q
        · omega
        · have := ih.2 z q; omega⟩
def gMaxL (d : D) : Option D := (listInts d).bind fun ns => if 0 < ns.length then some (.int (maxI ns)) else none
def gMinL (d : D) : Option D := (listInts d).bind fun ns => if 0 < ns.length then some (.int (minI ns)) else none
theorem vc_maxL : VCall K (rMax K) (gOne gMaxL) := by
  intro F H xs ds c Q s r hg q
  obtain ⟨x, d, rfl, rfl, rd, hd⟩ := one_of r hg
  simp only [gMaxL, Option.bind_eq_some_iff] at hd
  obtain ⟨ns, e1, e2⟩ := hd
  split at e2
  · rename_i h0
    cases e2
    obtain ⟨a, rfl, h⟩ := list_ints rd e1
    refine ⟨a, ns, rfl, Same.seq s h, h0, fun m h1 h2 => ?_⟩
    have sp := maxI_spec ns (by intro z; rw [z] at h0; simp at h0)
    have e : m = maxI ns := Int.le_antisymm (sp.2 m h1) (h2 _ sp.1)
    subst e
    exact q _ F H (Ste.refl s) (.int _)
  · cases e2
theorem vc_minL : VCall K (rMin K) (gOne gMinL) := by
  intro F H xs ds c Q s r hg q
  obtain ⟨x, d, rfl, rfl, rd, hd⟩ := one_of r hg
  simp only [gMinL, Option.bind_eq_some_iff] at hd
  obtain ⟨ns, e1, e2⟩ := hd
  split at e2
  · rename_i h0
    cases e2
    obtain ⟨a, rfl, h⟩ := list_ints rd e1
    refine ⟨a, ns, rfl, Same.seq s h, h0, fun m h1 h2 => ?_⟩
    have sp := minI_spec ns (by intro z; rw [z] at h0; simp at h0)
    have e : m = minI ns := Int.le_antisymm (h2 _ sp.1) (sp.2 m h1)
    subst e
    exact q _ F H (Ste.refl s) (.int _)
  · cases e2
end
end DL

set_option Elab.async false
set_option linter.all false
set_option maxRecDepth 100000
namespace DL
open PySem PySem.Spec L2

/-! ### targets -/
def setL (ε : List Ent) : List Nat → List D → List Ent
  | i :: is, d :: ds => setL (ε.set i (.dat d)) is ds
  | _, _ => ε
def setS (σ : St) : List Nat → List V → St
  | i :: is, v :: vs => setS (σ.set i (some v)) is vs
  | _, _ => σ
theorem Rep.setL {K : PySem.W.Frag} {C : Ct} {F H : Hp} : ∀ {is : List Nat} {vs : List V} {ds : List D} {σ : St} {ε : List Ent}, Rep K C F H σ ε → RepL K F vs ds → Rep K C F H (setS σ is vs) (setL ε is ds)
  | [], _, _, σ, ε, R, _ => by unfold DL.setL setS; exact R
  | i :: is, _, _, σ, ε, R, .nil => by unfold DL.setL setS; exact R
  | i :: is, v :: vs, d :: ds, σ, ε, R, .cons h r => by
    show Rep K C F H (setS (σ.set i (some v)) is vs) (DL.setL (ε.set i (.dat d)) is ds)
    exact Rep.setL (R.set i h) r
/-- a target: the slots, the parts of what is assigned -/
structure Tg where
  is : List Nat
  parts : D → Option (List D)
def SdG (K : PySem.W.Frag) (g : TG) (t : Tg) : Prop := ∀ (F H : Hp) (σ : St) (v : V) (d : D) (ds : List D) (Q : St → Hp → Prop), Same F H → RepD K F v d → t.parts d = some ds → (∀ vs, RepL K F vs ds → Q (setS σ t.is vs) H) → g v σ H Q
def gdName (i : Nat) : Tg := ⟨[i], fun d => some [d]⟩
theorem sg_name {K : PySem.W.Frag} {i : Nat} : SdG K (gName i) (gdName i) := fun F H σ v d ds Q s r e q => by
  cases e
  exact q [v] (.cons r .nil)
def setN (σ : St) : List Nat → List V → Option St
  | i :: is, v :: vs => setN (σ.set i (some v)) is vs
  | [], [] => some σ
  | _, _ => none
/-- names in a tuple -/
def gNames : List Nat → TGs
  | [] => gNil
  | i :: is => gCons (gName i) (gNames is)
theorem gNames_run : ∀ {is : List Nat} {vs : List V} {σ : St} {H : Hp} {Q : St → Hp → Prop}, vs.length = is.length → Q (setS σ is vs) H → gNames is vs σ H Q
  | [], [], σ, H, Q, _, h => ⟨rfl, h⟩
  | i :: is, v :: vs, σ, H, Q, hl, h => ⟨v, vs, rfl, gNames_run (by simpa using hl) h⟩
  | [], _ :: _, _, _, _, hl, _ => by simp at hl
  | _ :: _, [], _, _, _, hl, _ => by simp at hl
def gdTup (is : List Nat) : Tg := ⟨is, fun d => match d with
  | .tup ds => if ds.length = is.length then some ds else none
  | _ => none⟩
theorem sg_tup {K : PySem.W.Frag} {is : List Nat} {n : Nat} (hn : n = is.length) : SdG K (gTup K n (gNames is)) (gdTup is) := fun F H σ v d ds Q s r e q => by
  unfold gdTup at e
  dsimp only at e
  split at e
  · split at e
    · rename_i hl
      cases e
      obtain ⟨a, xs, rfl, h, r2⟩ := rep_tup r
      exact ⟨a, xs, rfl, seqT s h, by rw [r2.length, hl, hn], gNames_run (by rw [r2.length]; exact hl) (q xs r2)⟩
    · cases e
  · cases e

/-! ### what is walked -/
structure ItOk (K : PySem.W.Frag) (F : Hp) (J : It) (ds : List D) : Prop where
  go : ∀ F' H' i, Same F F' → Same F' H' → i < ds.length → J.go i H'
  yl : ∀ F' H' i x H2, Same F F' → Same F' H' → i < ds.length → J.yld i H' x H2 → ∃ d F2, ds[i]? = some d ∧ Ste F' H' F2 H2 ∧ RepD K F2 x d
  st : ∀ F' H' i, Same F F' → Same F' H' → ds.length ≤ i → J.stop i H'
def SdI (K : PySem.W.Frag) (C : Ct) (W : WX) (wi : TI) (f : Mo (List D)) : Prop := ∀ F H σ ε R, Rep K C F H σ ε →
  Good (f ε) (fun ds ε' => ∀ J F' H', Rep K C F' H' σ ε' → Stp σ ε ε' F H F' H' → ItOk K F' J ds → R J H') (ExP K C W F H σ ε) → wi σ H R
def EiD (X : Cx) (C : Ct) (W : WX) (tg e : Expr) (f : Mo (List D)) : Prop := ∃ wi, PI X tg e wi ∧ SdI X.K C W wi f
theorem it_list {K : PySem.W.Frag} {F : Hp} {a : Addr} {xs : List V} {ds : List D} (h : SqL K F a xs) (r : RepL K F xs ds) : ItOk K F (Itl K a) ds where
  go := fun F' H' i s1 s2 hi => by
    have hx : i < xs.length := by rw [r.length]; exact hi
    exact ⟨xs, xs[i], Same.seq (s1.trans s2) h, List.getElem?_eq_getElem hx⟩
  yl := fun F' H' i x H2 s1 s2 hi ⟨e, y⟩ => by
    subst e
    have hx := y xs (Same.seq (s1.trans s2) h)
    obtain ⟨d, h1, h2⟩ := r.getV hx
    exact ⟨d, F', h1, Ste.refl s2, h2.mono s1⟩
  st := fun F' H' i s1 s2 hi => ⟨xs, Same.seq (s1.trans s2) h, by rw [r.length]; exact hi⟩
theorem it_tup {K : PySem.W.Frag} {F : Hp} {a : Addr} {xs : List V} {ds : List D} (h : SqT K F a xs) (r : RepL K F xs ds) : ItOk K F (Itt K a) ds where
  go := fun F' H' i s1 s2 hi => by
    have hx : i < xs.length := by rw [r.length]; exact hi
    exact ⟨xs, xs[i], seqT (s1.trans s2) h, List.getElem?_eq_getElem hx⟩
  yl := fun F' H' i x H2 s1 s2 hi ⟨e, y⟩ => by
    subst e
    have hx := y xs (seqT (s1.trans s2) h)
    obtain ⟨d, h1, h2⟩ := r.getV hx
    exact ⟨d, F', h1, Ste.refl s2, h2.mono s1⟩
  st := fun F' H' i s1 s2 hi => ⟨xs, seqT (s1.trans s2) h, by rw [r.length]; exact hi⟩
/-- the ints from lo on -/
def rangeD (lo : Int) (n : Nat) : List D := (List.range n).map fun (k : Nat) => D.int (lo + (k : Int))
theorem it_range {K : PySem.W.Frag} {F : Hp} {lo : Int} {n : Nat} : ItOk K F (Itr lo n) (rangeD lo n) where
  go := fun F' H' i _ _ hi => by
    unfold rangeD at hi
    rw [List.length_map, List.length_range] at hi
    exact hi
  yl := fun F' H' i x H2 _ s2 hi ⟨e, y⟩ => by
    unfold rangeD at hi ⊢
    rw [List.length_map, List.length_range] at hi
    subst e y
    exact ⟨.int (lo + (i : Int)), F', by rw [List.getElem?_map, List.getElem?_range hi]; rfl, Ste.refl s2, .int _⟩
  st := fun F' H' i _ _ hi => by
    unfold rangeD at hi
    rw [List.length_map, List.length_range] at hi
    exact hi
section
variable {X : Cx} {C : Ct} {W : WX} {a b c e tg : Expr} {pos : Pos} {f g h : Mo D}
def lstOf : D → Option (List D)
  | .lst ds => some ds
  | .rdl ds => some ds
  | _ => none
def tupOf : D → Option (List D)
  | .tup ds => some ds
  | _ => none
theorem ei_list (he : EvD X C W e f) : EiD X C W tg e (bnd f fun d => lft (lstOf d)) := by
  obtain ⟨te, p1, s1⟩ := he
  refine ⟨_, pi_list p1, fun F H σ ε R R0 q => ?_⟩
  refine s1 F H σ ε _ R0 (q.bind.imp (fun d e q1 v F1 H1 R1 st1 r1 => ?_) fun x e z => z)
  cases d with
  | lst ds =>
    obtain ⟨a, xs, rfl, h, r⟩ := rep_seqs r1
    exact ⟨a, rfl, ⟨xs, Same.seq R1.fh h⟩, q1 _ F1 H1 R1 st1 (it_list h r)⟩
  | rdl ds =>
    obtain ⟨a, xs, rfl, h, r⟩ := rep_rdl r1
    exact ⟨a, rfl, ⟨xs, Same.seq R1.fh h⟩, q1 _ F1 H1 R1 st1 (it_list h r)⟩
  | _ => exact q1.elim
theorem ei_tup (he : EvD X C W e f) : EiD X C W tg e (bnd f fun d => lft (tupOf d)) := by
  obtain ⟨te, p1, s1⟩ := he
  refine ⟨_, pi_tup p1, fun F H σ ε R R0 q => ?_⟩
  refine s1 F H σ ε _ R0 (q.bind.imp (fun d e q1 v F1 H1 R1 st1 r1 => ?_) fun x e z => z)
  cases d with
  | tup ds =>
    obtain ⟨a, xs, rfl, h, r⟩ := rep_tup r1
    exact ⟨a, rfl, ⟨xs, seqT R1.fh h⟩, q1 _ F1 H1 R1 st1 (it_tup h r)⟩
  | _ => exact q1.elim
def inR (j : Int) : Bool := decide (-(2 ^ 62) ≤ j ∧ j < 2 ^ 62)
theorem inR_of {j : Int} (h : inR j = true) : -(2 ^ 62) ≤ j ∧ j < 2 ^ 62 := of_decide_eq_true h
theorem inR_mk {j : Int} (h1 : -(2 ^ 62) ≤ j) (h2 : j < 2 ^ 62) : inR j = true := decide_eq_true ⟨h1, h2⟩
def rng1 : List D → Option (List D)
  | [.int j] => if inR j = true then some (rangeD 0 j.toNat) else none
  | _ => none
def rng2 : List D → Option (List D)
  | [.int i, .int j] => if inR i = true ∧ inR j = true then some (rangeD i (j - i).toNat) else none
  | _ => none
theorem ei_range1 {fs : Mo (List D)} (ha : EaD X C W [a] fs) (hp : ∀ ta, PA X [a] ta → PI X tg e (iRng1 ta)) : EiD X C W tg e (bnd fs fun ds => lft (rng1 ds)) := by
  obtain ⟨ta, p1, s1⟩ := ha
  refine ⟨_, hp _ p1, fun F H σ ε R R0 q => ?_⟩
  refine s1 F H σ ε _ R0 (q.bind.imp (fun ds e q1 vs F1 H1 R1 st1 r1 => ?_) fun x e z => z)
  unfold lft at q1
  cases hr : rng1 ds with
  | none => rw [hr] at q1; exact q1.elim
  | some is =>
    rw [hr] at q1
    unfold rng1 at hr
    split at hr
    · rename_i j
      split at hr
      · rename_i hb
        cases hr
        have := RepL.ints (ns := [j]) r1
        subst this
        exact ⟨j, rfl, (inR_of hb).1, (inR_of hb).2, q1 _ F1 H1 R1 st1 it_range⟩
      · cases hr
    · cases hr
theorem ei_range2 {fs : Mo (List D)} (ha : EaD X C W [a, b] fs) (hp : ∀ ta, PA X [a, b] ta → PI X tg e (iRng2 ta)) : EiD X C W tg e (bnd fs fun ds => lft (rng2 ds)) := by
  obtain ⟨ta, p1, s1⟩ := ha
  refine ⟨_, hp _ p1, fun F H σ ε R R0 q => ?_⟩
  refine s1 F H σ ε _ R0 (q.bind.imp (fun ds e q1 vs F1 H1 R1 st1 r1 => ?_) fun x e z => z)
  unfold lft at q1
  cases hr : rng2 ds with
  | none => rw [hr] at q1; exact q1.elim
  | some is =>
    rw [hr] at q1
    unfold rng2 at hr
    split at hr
    · rename_i i j
      split at hr
      · rename_i hb
        cases hr
        have := RepL.ints (ns := [i, j]) r1
        subst this
        exact ⟨i, j, rfl, ⟨(inR_of hb.1).1, (inR_of hb.1).2, (inR_of hb.2).1, (inR_of hb.2).2⟩, q1 _ F1 H1 R1 st1 it_range⟩
      · cases hr
    · cases hr

/-! ### comprehensions: one clause -/
def PtD (X : Cx) (C : Ct) (W : WX) (ifs : List Expr) (f : Mo Bool) : Prop := ∃ tt, PTs X ifs tt ∧ SdT X.K C W tt f
end
/-- the block's own names are forgotten -/
def wipeE (ε : List Ent) : List Nat → List Ent
  | [] => ε
  | v :: vs => (wipeE ε vs).set v .un
/-- the turns: what is kept goes to the end of acc -/
def lcGo (vs : List Nat) (t : Tg) (tt : Mo Bool) (te : Mo D) : List D → List D → Mo (List D)
  | [], acc => pur acc
  | d :: r, acc => fun ε => match t.parts d with
    | none => none
    | some ds => match tt (setL ε t.is ds) with
      | some (.ok true ε1) => (match te ε1 with
        | some (.ok y ε2) => if acc.length < 1000000 then lcGo vs t tt te r (acc ++ [y]) (wipeE ε2 vs) else none
        | _ => none)
      | some (.ok false ε1) => lcGo vs t tt te r acc (wipeE ε1 vs)
      | _ => none
/-- behind the block: its names hold what they held -/
def backE (ε ε' : List Ent) : List Nat → List Ent
  | [] => ε'
  | v :: vs => backE ε (ε'.set v (match ε[v]? with
    | some (.dat d) => .dat d
    | _ => .un)) vs
def mLc (vs : List Nat) (fi : Mo (List D)) (t : Tg) (tt : Mo Bool) (te : Mo D) : Mo (List D) := bnd fi fun ds => fun ε => match lcGo vs t tt te ds [] (wipeE ε vs) with
  | some (.ok acc ε') => some (.ok acc (backE ε ε' vs))
  | _ => none

section
variable {K : PySem.W.Frag} {C : Ct} {F H F' H' : Hp} {σ : St} {ε ε' : List Ent}
theorem Apart.set {b : Addr} (p : Apart σ ε b) (i : Nat) (x : Option V) {e : Ent} (he : e.mut = false) : Apart (σ.set i x) (ε.set i e) b := fun j e' hj hj' => by
  by_cases hij : i = j
  · subst hij
    have hl : i < ε.length := by
      have := (List.getElem?_eq_some_iff.mp hj').1
      rwa [List.length_set] at this
    rw [List.getElem?_set_self hl] at hj'
    cases hj'
    exact he
  · rw [List.getElem?_set_ne hij] at hj hj'
    exact p j e' hj hj'
theorem Apart.setL {b : Addr} : ∀ {is : List Nat} {vs : List V} {ds : List D} {σ : St} {ε : List Ent}, vs.length = ds.length → Apart σ ε b → Apart (setS σ is vs) (setL ε is ds) b
  | [], _, _, σ, ε, _, p => by unfold DL.setL setS; exact p
  | i :: is, [], [], σ, ε, _, p => by unfold DL.setL setS; exact p
  | i :: is, v :: vs, d :: ds, σ, ε, hl, p => by
    show Apart (setS (σ.set i (some v)) is vs) (DL.setL (ε.set i (.dat d)) is ds) b
    exact Apart.setL (by simpa using hl) (p.set i _ rfl)
  | i :: is, _ :: _, [], σ, ε, hl, p => by simp at hl
  | i :: is, [], _ :: _, σ, ε, hl, p => by simp at hl
theorem Apart.wipe {b : Addr} (p : Apart σ ε b) : ∀ vs : List Nat, Apart (L2.wipe σ vs) (wipeE ε vs) b
  | [] => p
  | v :: vs => (Apart.wipe p vs).set v none rfl
/-- a slot is emptied -/
theorem Rep.unset (R : Rep K C F H σ ε) (i : Nat) : Rep K C F H (σ.set i none) (ε.set i .un) where
  fh := R.fh
  ff := R.ff
  old := R.old
  keep := R.keep
  tr := R.tr
  len := by rw [List.length_set, List.length_set]; exact R.len
  ent := fun j e he => by
    by_cases hj : i = j
    · subst hj
      have hl : i < ε.length := by
        have := (List.getElem?_eq_some_iff.mp he).1
        rwa [List.length_set] at this
      rw [List.getElem?_set_self hl] at he
      cases he
      trivial
    · rw [List.getElem?_set_ne hj] at he
      rw [List.getElem?_set_ne hj]
      exact R.ent j e he
  dis := fun a b l e e' h1 h2 h3 h4 h5 h6 => by
    by_cases ha : i = a
    · subst ha
      have hl : i < ε.length := by
        have := (List.getElem?_eq_some_iff.mp h3).1
        rwa [List.length_set] at this
      rw [List.getElem?_set_self hl] at h3
      cases h3
      cases h5
    · by_cases hb : i = b
      · subst hb
        have hl : i < ε.length := by
          have := (List.getElem?_eq_some_iff.mp h4).1
          rwa [List.length_set] at this
        rw [List.getElem?_set_self hl] at h4
        cases h4
        cases h6
      · rw [List.getElem?_set_ne ha] at h1 h3
        rw [List.getElem?_set_ne hb] at h2 h4
        exact R.dis a b l e e' h1 h2 h3 h4 h5 h6
theorem Rep.wipe (R : Rep K C F H σ ε) : ∀ vs : List Nat, Rep K C F H (L2.wipe σ vs) (wipeE ε vs)
  | [] => R
  | v :: vs => (Rep.wipe R vs).unset v
/-- the slot's value comes back -/
theorem Rep.reset {i : Nat} (R : Rep K C F H (σ.set i none) ε) {e : Ent} (he : e = .un ∨ ∃ d x, e = .dat d ∧ σ[i]? = some (some x) ∧ RepD K F x d) : Rep K C F H σ (ε.set i e) where
  fh := R.fh
  ff := R.ff
  old := R.old
  keep := R.keep
  tr := R.tr
  len := by
    have := R.len
    rw [List.length_set] at this
    rw [List.length_set]; exact this
  ent := fun j e2 h2 => by
    by_cases hj : i = j
    · subst hj
      have hl : i < ε.length := by
        have := (List.getElem?_eq_some_iff.mp h2).1
        rwa [List.length_set] at this
      rw [List.getElem?_set_self hl] at h2
      cases h2
      rcases he with rfl | ⟨d, x, rfl, h3, h4⟩
      · trivial
      · exact ⟨x, h3, h4⟩
    · rw [List.getElem?_set_ne hj] at h2
      have q := R.ent j e2 h2
      rw [List.getElem?_set_ne hj] at q
      exact q
  dis := fun a b l e1 e2 h1 h2 h3 h4 h5 h6 => by
    have nm : e.mut = false := by
      rcases he with rfl | ⟨d, x, rfl, _⟩ <;> rfl
    by_cases ha : i = a
    · subst ha
      have hl : i < ε.length := by
        have := (List.getElem?_eq_some_iff.mp h3).1
        rwa [List.length_set] at this
      rw [List.getElem?_set_self hl] at h3
      cases h3
      rw [nm] at h5; cases h5
    · by_cases hb : i = b
      · subst hb
        have hl : i < ε.length := by
          have := (List.getElem?_eq_some_iff.mp h4).1
          rwa [List.length_set] at this
        rw [List.getElem?_set_self hl] at h4
        cases h4
        rw [nm] at h6; cases h6
      · rw [List.getElem?_set_ne ha] at h3
        rw [List.getElem?_set_ne hb] at h4
        exact R.dis a b l e1 e2 (by rw [List.getElem?_set_ne ha]; exact h1) (by rw [List.getElem?_set_ne hb]; exact h2) h3 h4 h5 h6
theorem Rep.back (R0 : Rep K C F H σ ε) (s : Same F F') : ∀ (vs : List Nat) {ε' : List Ent}, vs.Nodup → Rep K C F' H' (L2.wipe σ vs) ε' → Rep K C F' H' σ (backE ε ε' vs)
  | [], _, _, R => R
  | v :: vs, ε', nd, R => by
    have nd' := List.nodup_cons.mp nd
    refine Rep.back R0 s vs nd'.2 (Rep.reset (i := v) R ?_)
    cases h : ε[v]? with
    | none => exact .inl rfl
    | some e =>
      cases e with
      | dat d =>
        obtain ⟨x, h1, h2⟩ := R0.ent v _ h
        exact .inr ⟨d, x, rfl, by rw [wipe_out nd'.1]; exact h1, h2.mono s⟩
      | un => exact .inl rfl
      | xc => exact .inl rfl
      | own ds => exact .inl rfl
      | od ob => exact .inl rfl
      | io ds => exact .inl rfl
theorem apart_back {b : Addr} : ∀ (vs : List Nat) {ε' : List Ent}, Apart (L2.wipe σ vs) ε' b → vs.Nodup → Apart σ (backE ε ε' vs) b
  | [], _, p, _ => p
  | v :: vs, ε', p, nd => by
    have nd' := List.nodup_cons.mp nd
    refine apart_back vs (fun j e hj hj' => ?_) nd'.2
    by_cases hij : v = j
    · subst hij
      have hl : v < ε'.length := by
        have := (List.getElem?_eq_some_iff.mp hj').1
        rwa [List.length_set] at this
      rw [List.getElem?_set_self hl] at hj'
      cases hj'
      split <;> rfl
    · rw [List.getElem?_set_ne hij] at hj'
      refine p j e ?_ hj'
      show ((L2.wipe σ vs).set v none)[j]? = _
      rw [List.getElem?_set_ne hij]
      exact hj
/-- a loose object changes -/
theorem Rep.poke (R : Rep K C F H σ ε) {l : Addr} {o : HO} (h2 : F l = none) (h4 : C.H0 l = none) (h5 : Apart σ ε l) : Rep K C F (upd H l o) σ ε where
  fh := fun b x e => by
    rw [upd_ne (fun z => by rw [z, h2] at e; cases e)]
    exact R.fh b x e
  ff := R.ff
  old := R.old
  keep := fun b o' e n => by
    rw [upd_ne (fun z => by rw [z, h4] at e; cases e)]
    exact R.keep b o' e n
  tr := fun b e => by
    rw [upd_ne (fun z => e (by rw [z]; exact h4))]
    exact R.tr b e
  len := R.len
  ent := fun i e he => by
    have q := R.ent i e he
    cases e with
    | un => trivial
    | xc => exact q
    | dat d => exact q
    | own ds =>
      obtain ⟨m, vs, a, b, c, d, g⟩ := q
      have ne : m ≠ l := fun z => by
        have := h5 i _ (z ▸ a) he
        cases this
      exact ⟨m, vs, a, by rw [upd_ne ne]; exact b, c, d, g⟩
    | io ds =>
      obtain ⟨m, vs, a, b, c, d, g⟩ := q
      have ne : m ≠ l := fun z => by
        have := h5 i _ (z ▸ a) he
        cases this
      exact ⟨m, vs, a, by rw [upd_ne ne]; exact b, c, d, g⟩
    | od ob =>
      obtain ⟨m, vs, a, b, c, d, g⟩ := q
      have ne : m ≠ l := fun z => by
        have := h5 i _ (z ▸ a) he
        cases this
      exact ⟨m, vs, a, by rw [upd_ne ne]; exact b, c, d, g⟩
  dis := R.dis
theorem Rep.newApart (R : Rep K C F H σ ε) {l : Addr} (h : H l = none) : F l = none ∧ C.H0 l = none ∧ Apart σ ε l := by
  refine ⟨R.fh.free h, ?_, fun j e hj he => ?_⟩
  · cases q : C.H0 l with
    | none => rfl
    | some o => exact absurd h (R.tr l (by rw [q]; exact fun z => by cases z))
  · cases hm : e.mut with
    | false => rfl
    | true =>
      have q := R.ent j e he
      cases e with
      | un => cases hm
      | xc => cases hm
      | dat d => cases hm
      | own ds =>
        obtain ⟨m, vs, a, b, _⟩ := q
        rw [hj] at a; cases a
        rw [h] at b; cases b
      | io ds =>
        obtain ⟨m, vs, a, b, _⟩ := q
        rw [hj] at a; cases a
        rw [h] at b; cases b
      | od ob =>
        obtain ⟨m, vs, a, b, _⟩ := q
        rw [hj] at a; cases a
        rw [h] at b; cases b
end

/-! ### expressions that give a new list of one's own -/
def OkO (K : PySem.W.Frag) (C : Ct) (F H : Hp) (σ : St) (ε : List Ent) (Q : VK) : List D → List Ent → Prop := fun ds ε' => ∀ l vs F' H', Rep K C F' H' σ ε' → Stp σ ε ε' F H F' H' → H' l = some (.lst vs) → F' l = none → RepL K F' vs ds →
  C.H0 l = none → Apart σ ε' l → H l = none → Q (.ref l) H'
def SdO (K : PySem.W.Frag) (C : Ct) (W : WX) (te : TE) (f : Mo (List D)) : Prop := ∀ F H σ ε Q, Rep K C F H σ ε → Good (f ε) (OkO K C F H σ ε Q) (ExP K C W F H σ ε) → te σ H Q
def EvO (X : Cx) (C : Ct) (W : WX) (e : Expr) (f : Mo (List D)) : Prop := ∃ te, PE X e te ∧ SdO X.K C W te f
def mFz (f : Mo (List D)) : Mo D := bnd f fun ds => pur (.lst ds)
theorem SdO.frz {K : PySem.W.Frag} {C : Ct} {W : WX} {te : TE} {f : Mo (List D)} (h : SdO K C W te f) : SdE K C W te (mFz f) := fun F H σ ε Q R q => by
  refine h F H σ ε Q R (q.bind.imp (fun ds e q1 l vs F1 H1 R1 st1 h1 h2 h3 h4 h5 h6 => ?_) fun x e z => z)
  have R2 := R1.freeze h1 h2 h4 h5
  have s2 : Same F1 (upd F1 l (.lst vs)) := same_upd h2
  exact q1 (.ref l) _ _ R2 ⟨st1.ff.trans s2, st1.hh, fun b hb p => by
    rw [upd_ne (fun z => hb (by rw [z]; exact h6))]
    exact st1.old b hb p, st1.ap, st1.tr⟩ (.lst upd_same (h3.mono s2))
theorem EvO.frz {X : Cx} {C : Ct} {W : WX} {e : Expr} {f : Mo (List D)} (h : EvO X C W e f) : EvD X C W e (mFz f) := by
  obtain ⟨te, p, s⟩ := h
  exact ⟨te, p, s.frz⟩

theorem wipe_len (σ : St) : ∀ vs : List Nat, (L2.wipe σ vs).length = σ.length
  | [] => rfl
  | v :: vs => by
    show ((L2.wipe σ vs).set v none).length = _
    rw [List.length_set]; exact wipe_len σ vs
theorem wipe_at (σ : St) (j : Nat) : ∀ vs : List Nat, (L2.wipe σ vs)[j]? = if j ∈ vs then (if j < σ.length then some none else none) else σ[j]?
  | [] => by simp [L2.wipe]
  | v :: vs => by
    show ((L2.wipe σ vs).set v none)[j]? = _
    by_cases hv : v = j
    · subst hv
      rw [if_pos List.mem_cons_self]
      by_cases hl : v < σ.length
      · rw [if_pos hl, List.getElem?_set_self (by rw [wipe_len]; exact hl)]
      · rw [if_neg hl, List.getElem?_eq_none (by rw [List.length_set, wipe_len]; omega)]
    · rw [List.getElem?_set_ne hv, wipe_at σ j vs]
      by_cases hm : j ∈ vs
      · rw [if_pos hm, if_pos (List.mem_cons_of_mem _ hm)]
      · rw [if_neg hm, if_neg (fun z => by
          rcases List.mem_cons.mp z with e | e
          · exact hv e.symm
          · exact hm e)]
theorem setS_len : ∀ (is : List Nat) (xs : List V) (τ : St), (setS τ is xs).length = τ.length
  | [], _, τ => by unfold setS; rfl
  | i :: is, [], τ => by unfold setS; rfl
  | i :: is, x :: xs, τ => by
    show (setS (τ.set i (some x)) is xs).length = _
    rw [setS_len is xs, List.length_set]
theorem setS_at {j : Nat} : ∀ (is : List Nat) (xs : List V) (τ : St), j ∉ is → (setS τ is xs)[j]? = τ[j]?
  | [], _, τ, _ => by unfold setS; rfl
  | i :: is, [], τ, _ => by unfold setS; rfl
  | i :: is, x :: xs, τ, h => by
    show (setS (τ.set i (some x)) is xs)[j]? = _
    rw [setS_at is xs _ (fun z => h (List.mem_cons_of_mem _ z)), List.getElem?_set_ne (fun z => h (by rw [z]; exact List.mem_cons_self))]
theorem wipe_setS {vs is : List Nat} (hin : ∀ i ∈ is, i ∈ vs) (xs : List V) (σ : St) : L2.wipe (setS (L2.wipe σ vs) is xs) vs = L2.wipe σ vs := by
  apply List.ext_getElem?
  intro j
  rw [wipe_at, wipe_at]
  by_cases hm : j ∈ vs
  · rw [if_pos hm, if_pos hm, setS_len, wipe_len]
  · rw [if_neg hm, if_neg hm, setS_at _ _ _ (fun z => hm (hin j z)), wipe_at, if_neg hm]
theorem wipe_wipe (vs : List Nat) (σ : St) : L2.wipe (L2.wipe σ vs) vs = L2.wipe σ vs := by
  have := wipe_setS (vs := vs) (is := []) (fun i h => by cases h) [] σ
  unfold setS at this
  exact this
section
variable {K : PySem.W.Frag} {C : Ct} {W : WX}
/-- the comprehension's loop -/
theorem sd_lc {wi : TI} {g : TG} {tt : TT} {te : TE} {vs : List Nat} {fi : Mo (List D)} {t : Tg} {ft : Mo Bool} {fe : Mo D} {W0 : WX} (nd : vs.Nodup) (hin : ∀ i ∈ t.is, i ∈ vs) (si : SdI K C W wi fi) (sg : SdG K g t)
    (stt : SdT K C W0 tt ft) (ste : SdE K C W0 te fe) : SdO K C W (tLc wi g tt te vs) (mLc vs fi t ft fe) := fun F H σ ε Q R q => by
  refine si F H σ ε _ R (q.bind.imp (fun ds e q1 J F1 H1 R1 st1 it => ?_) fun x e z => z)
  intro D hD
  obtain ⟨fD, h0D, apD⟩ := R1.newApart hD
  cases hgo : lcGo vs t ft fe ds [] (wipeE e vs) with
  | none => rw [hgo] at q1; exact q1.elim
  | some res =>
  cases res with
  | ex x ε' => rw [hgo] at q1; exact q1.elim
  | ok out εo =>
  rw [hgo] at q1
  -- the invariant
  refine ⟨fun i m H' => m = ds.length - i ∧ i ≤ ds.length ∧ ∃ F' ε' acc accV, Rep K C F' H' (L2.wipe σ vs) ε' ∧ Same F1 F' ∧ (∀ b o, H1 b = some o → Apart (L2.wipe σ vs) (wipeE e vs) b → H' b = some o) ∧ (∀ b, H1 b ≠ none → Apart (L2.wipe σ vs) (wipeE e vs) b → F' b = F1 b) ∧
      (∀ b, Apart (L2.wipe σ vs) (wipeE e vs) b → Apart (L2.wipe σ vs) ε' b) ∧ (∀ b, H1 b ≠ none → H' b ≠ none) ∧ H' D = some (.lst accV) ∧ F' D = none ∧ RepL K F' accV acc ∧ lcGo vs t ft fe (ds.drop i) acc ε' = some (.ok out εo), ⟨ds.length, by simp, Nat.zero_le _, F1, wipeE e vs, [], [], ?_⟩, ?_⟩
  · refine ⟨((R1.wipe vs).poke fD h0D (apD.wipe vs)), Same.refl F1, fun b o h _ => ?_, fun _ _ _ => rfl, fun _ p => p, fun b h => by rw [upd_ne (fun z => h (by rw [z]; exact hD))]; exact h, upd_same, fD, .nil, by rw [List.drop_zero]; exact hgo⟩
    rw [upd_ne (fun z => by rw [z, hD] at h; cases h)]
    exact h
  · rintro i m H2 ⟨rfl, hi, F2, ε2, acc, accV, R2, s12, k1, k2, k3, k4, hD2, fD2, ra, go⟩
    have apD2 : Apart (L2.wipe σ vs) ε2 D := k3 D (apD.wipe vs)
    by_cases hlt : i < ds.length
    · refine .inr ⟨it.go F2 H2 i s12 R2.fh hlt, _, fun H' w => ⟨ds.length - (i + 1), by omega, rfl, by omega, w⟩, fun x H3 y => ?_⟩
      obtain ⟨d, F3, hd, st3, rd⟩ := it.yl F2 H2 i x H3 s12 R2.fh hlt y
      have R3 := R2.step st3
      have hds : ds.drop i = d :: ds.drop (i + 1) := by
        obtain ⟨hl, e2⟩ := List.getElem?_eq_some_iff.mp hd
        rw [List.drop_eq_getElem_cons hl, e2]
      rw [hds] at go
      unfold lcGo at go
      cases hp : t.parts d with
      | none => rw [hp] at go; cases go
      | some ps =>
        rw [hp] at go
        dsimp only at go
        refine sg F3 H3 _ x d ps _ R3.fh rd hp fun xs rx => ⟨wipe_setS hin xs σ, ?_⟩
        have R4 := R3.setL (is := t.is) rx
        have ap4 : ∀ b, Apart (L2.wipe σ vs) ε2 b → Apart (setS (L2.wipe σ vs) t.is xs) (setL ε2 t.is ps) b := fun b p => p.setL rx.length
        have hD3 : H3 D = some (.lst accV) := st3.hh D _ hD2
        have fD3 : F3 D = none := (st3.old D (by rw [hD2]; exact fun z => by cases z)).trans fD2
        have l1 : ∀ b o, H1 b = some o → Apart (L2.wipe σ vs) (wipeE e vs) b → H3 b = some o := fun b o h p => st3.hh b o (k1 b o h p)
        have l2 : ∀ b, H1 b ≠ none → Apart (L2.wipe σ vs) (wipeE e vs) b → F3 b = F1 b := fun b h p => by
          cases q : H1 b with
          | none => exact absurd q h
          | some o => exact (st3.old b (by rw [k1 b o q p]; exact fun z => by cases z)).trans (k2 b h p)
        -- what a turn's evaluations leave
        have keep : ∀ {εa : List Ent} {Fa Ha : Hp}, Stp (setS (L2.wipe σ vs) t.is xs) (setL ε2 t.is ps) εa F3 H3 Fa Ha → Rep K C Fa Ha (setS (L2.wipe σ vs) t.is xs) εa →
            Rep K C Fa Ha (L2.wipe σ vs) (wipeE εa vs) ∧ Same F1 Fa ∧ (∀ b o, H1 b = some o → Apart (L2.wipe σ vs) (wipeE e vs) b → Ha b = some o) ∧ (∀ b, H1 b ≠ none → Apart (L2.wipe σ vs) (wipeE e vs) b → Fa b = F1 b) ∧
            (∀ b, Apart (L2.wipe σ vs) (wipeE e vs) b → Apart (L2.wipe σ vs) (wipeE εa vs) b) ∧ (∀ b, H1 b ≠ none → Ha b ≠ none) ∧ Ha D = some (.lst accV) ∧ Fa D = none := fun {εa Fa Ha} st Ra => by
          have Rw := Ra.wipe vs
          rw [wipe_setS hin] at Rw
          refine ⟨Rw, (s12.trans st3.ff).trans st.ff, fun b o h p => st.hh b o (l1 b o h p) (ap4 b (k3 b p)), fun b h p => ?_, fun b p => ?_, fun b h => st.tr b (Same.some st3.hh (k4 b h)), st.hh D _ hD3 (ap4 D apD2), (st.old D (by rw [hD3]; exact fun z => by cases z) (ap4 D apD2)).trans fD3⟩
          · cases q : H1 b with
            | none => exact absurd q h
            | some o => exact (st.old b (by rw [l1 b o q p]; exact fun z => by cases z) (ap4 b (k3 b p))).trans (l2 b h p)
          · have := (st.ap b (ap4 b (k3 b p))).wipe vs
            rw [wipe_setS hin] at this
            exact this
        refine stt F3 H3 _ (setL ε2 t.is ps) _ R4 ?_
        cases ht : ft (setL ε2 t.is ps) with
        | none => rw [ht] at go; cases go
        | some rt =>
        rw [ht] at go
        cases rt with
        | ex x2 e2 => cases go
        | ok bt ε3 =>
        cases bt with
        | false =>
          intro F4 H4 R5 st5
          obtain ⟨m1, m2, m3, m4, m5, m8, m6, m7⟩ := keep st5 R5
          refine iteF ?_
          exact ⟨F4, wipeE ε3 vs, acc, accV, m1, m2, m3, m4, m5, m8, m6, m7, ra.mono (st3.ff.trans st5.ff), go⟩
        | true =>
          intro F4 H4 R5 st5
          refine iteT ?_
          dsimp only at go
          refine ste F4 H4 _ ε3 _ R5 ?_
          cases he : fe ε3 with
          | none => rw [he] at go; cases go
          | some re =>
          rw [he] at go
          cases re with
          | ex x2 e2 => cases go
          | ok y ε4 =>
          dsimp only at go
          intro v F5 H5 R6 st6 rv
          by_cases hz : acc.length < 1000000
          · rw [if_pos hz] at go
            obtain ⟨m1, m2, m3, m4, m5, m8, m6, m7⟩ := keep (st5.trans st6) R6
            have apD5 := m5 D (apD.wipe vs)
            have ra5 := ra.mono (st3.ff.trans (st5.ff.trans st6.ff))
            refine ⟨accV, m6, by rw [ra.length]; exact Nat.lt_of_lt_of_le hz (by decide), F5, wipeE ε4 vs, acc ++ [y], accV ++ [v], m1.poke m7 h0D apD5, m2, fun b o h p => ?_, m4, m5, fun b h => by
                by_cases hb : b = D
                · rw [hb, upd_same]; exact fun z => by cases z
                · rw [upd_ne hb]; exact m8 b h, upd_same, m7, ra5.append (.cons rv .nil), go⟩
            rw [upd_ne (fun z => by rw [z, hD] at h; cases h)]
            exact m3 b o h p
          · rw [if_neg hz] at go; cases go
    · have e0 : i = ds.length := by omega
      subst e0
      refine .inl ⟨it.st F2 H2 _ s12 R2.fh (Nat.le_refl _), ?_⟩
      rw [List.drop_length] at go
      unfold lcGo pur at go
      cases go
      have Rb := R1.back s12 vs nd R2
      refine q1 D accV F2 H2 Rb (st1.trans ⟨s12, fun b o h p => k1 b o h (p.wipe vs), fun b h p => k2 b h (p.wipe vs), fun b p => apart_back vs (k3 b (p.wipe vs)) nd, k4⟩) hD2 fD2 ra h0D (apart_back vs apD2 nd) ?_
      cases qD : H D with
      | none => rfl
      | some o => exact absurd hD (st1.tr D (by rw [qD]; exact fun z => by cases z))
end
end DL

set_option Elab.async false
set_option linter.all false
set_option maxRecDepth 100000
namespace DL
open PySem PySem.Spec L2

/-! ### uniform readings -/
def canE (K : PySem.W.Frag) (C : Ct) (W : WX) (f : Mo D) : TE := fun σ H Q => ∃ F ε, Rep K C F H σ ε ∧ Good (f ε) (OkE K C F H σ ε Q) (ExP K C W F H σ ε)
theorem EvD.can {X : Cx} {C : Ct} {W : WX} {e : Expr} {f : Mo D} (h : EvD X C W e f) : PE X e (canE X.K C W f) := by
  obtain ⟨te, p, s⟩ := h
  exact ⟨fun pins st σ H Q I ⟨F, ε, R, q⟩ => p.run pins st σ H Q I (s F H σ ε Q R q)⟩
theorem sd_can {K : PySem.W.Frag} {C : Ct} {W : WX} {f : Mo D} : SdE K C W (canE K C W f) f := fun F H σ ε Q R q => ⟨F, ε, R, q⟩
def canT (K : PySem.W.Frag) (C : Ct) (W : WX) (f : Mo Bool) : TT := fun σ H Q => ∃ F ε, Rep K C F H σ ε ∧ Good (f ε) (OkB K C F H σ ε Q) (ExP K C W F H σ ε)
theorem PtD.can {X : Cx} {C : Ct} {W : WX} {e : List Expr} {f : Mo Bool} (h : PtD X C W e f) : PTs X e (canT X.K C W f) := by
  obtain ⟨te, p, s⟩ := h
  exact ⟨fun pins st σ H Q I ⟨F, ε, R, q⟩ => p.run pins st σ H Q I (s F H σ ε Q R q)⟩
theorem sd_canT {K : PySem.W.Frag} {C : Ct} {W : WX} {f : Mo Bool} : SdT K C W (canT K C W f) f := fun F H σ ε Q R q => ⟨F, ε, R, q⟩
section
variable {X : Cx} {C : Ct} {W : WX} {a b c e tg : Expr} {pos : Pos} {f g h : Mo D}
abbrev W0 : WX := fun _ _ _ _ => False
theorem pt_nilD : PtD X C W [] (pur true) := ⟨_, pts_nil, fun F H σ ε Q R q => q F H R Stp.refl⟩
theorem pt_oneD {f : Mo Bool} (h : TeD X C W a f) : PtD X C W [a] f := by
  obtain ⟨te, p, s⟩ := h
  exact ⟨te, pts_one p, s⟩
theorem ev_lc {elt iter : Expr} {ifs : List Expr} {scope : Scope} {own : List (Str × Nat)} {g : TG} {t : Tg} {fi : Mo (List D)} {ft : Mo Bool} {fe : Mo D} (hc : X.calm = true) (hN : X.N.Nodup) (hi : EiD X C W tg iter fi) (ok : BlkOk X.N X.env.scope scope own)
    (hg : ∀ (s : Shared) (H : Hp) (Ca : Addr) (cl : List (Str × Addr)) (fp : List Addr), PG (X.blk s H scope (compEnvC scope cl Ca X.env) fp) tg g) (sg : SdG X.K g t)
    (ht : ∀ (s : Shared) (H : Hp) (Ca : Addr) (cl : List (Str × Addr)) (fp : List Addr), PtD (X.blk s H scope (compEnvC scope cl Ca X.env) fp) C W0 ifs ft)
    (he : ∀ (s : Shared) (H : Hp) (Ca : Addr) (cl : List (Str × Addr)) (fp : List Addr), EvD (X.blk s H scope (compEnvC scope cl Ca X.env) fp) C W0 elt fe)
    (nd : (own.map (·.2)).Nodup) (hin : ∀ i ∈ t.is, i ∈ own.map (·.2)) (hs : ∀ x, foldedSetIterable iter X.env x = pure x := by intro _; rfl) :
    EvO X C W (.ListComp elt [⟨tg, iter, ifs, 0⟩] scope pos) (mLc (own.map (·.2)) fi t ft fe) := by
  obtain ⟨wi, p, si⟩ := hi
  exact ⟨_, pe_lc hc hN p ok hg (fun s H Ca cl fp => (ht s H Ca cl fp).can) (fun s H Ca cl fp => (he s H Ca cl fp).can) hs, sd_lc nd hin si sg sd_canT sd_can⟩
end

/-! ### new lists of one's own -/
section
variable {X : Cx} {C : Ct} {W : WX} {a b c e tg : Expr} {pos : Pos} {f g h : Mo D}
theorem Rep.loose {K : PySem.W.Frag} {C : Ct} {F H : Hp} {σ : St} {ε : List Ent} (R : Rep K C F H σ ε) {p : Addr} (o : HO) (h : H p = none) : Rep K C F (upd H p o) σ ε := R.step (Ste.loose R.fh h)
theorem ok_new {K : PySem.W.Frag} {F H F1 H1 : Hp} {σ : St} {ε ε1 : List Ent} {Q : VK} {ds : List D} {xs : List V} (R : Rep K C F H σ ε) (R1 : Rep K C F1 H1 σ ε1) (st : Stp σ ε ε1 F H F1 H1) (r : RepL K F1 xs ds) (q : OkO K C F H σ ε Q ds ε1) {p : Addr} (hp : H1 p = none) : Q (.ref p) (upd H1 p (.lst xs)) := by
  obtain ⟨h1, h2, h3⟩ := R1.newApart hp
  refine q p xs F1 _ (R1.loose _ hp) (st.trans (Ste.loose R1.fh hp).stp) upd_same h1 r h2 h3 ?_
  cases qq : H p with
  | none => rfl
  | some o => exact absurd hp (st.tr p (by rw [qq]; exact fun z => by cases z))
def mLstO (f : Mo (List D)) : Mo (List D) := bnd f fun ds => lft (if ds.length ≤ 1000 then some ds else none)
theorem eo_lst {es : List Expr} {fs : Mo (List D)} (h : EaD X C W es fs) : EvO X C W (.List es pos) (mLstO fs) := by
  obtain ⟨te, p1, s1⟩ := h
  refine ⟨_, pe_lst p1, fun F H σ ε Q R q => ?_⟩
  refine s1 F H σ ε _ R (q.bind.imp (fun ds e q1 vs F1 H1 R1 st1 r1 => ?_) fun x e z => z)
  unfold lft at q1
  by_cases hl : ds.length ≤ 1000
  · rw [if_pos hl] at q1
    exact ⟨by rw [r1.length]; exact le_line hl, fun p hp => ok_new R R1 st1 r1 q1 hp⟩
  · rw [if_neg hl] at q1; exact q1.elim
/-- list(x) -/
def mListO (f : Mo (List D)) : Mo (List D) := bnd f fun ds => lft (match ds with
  | [d] => seqOf d
  | _ => none)
theorem eo_list {es : List Expr} {fs : Mo (List D)} (h : EaD X C W es fs) (hp : ∀ ta, PA X es ta → PE X e (tCB (fun xs H Q => ∃ p ys, xs = [.ref p] ∧ (SqL X.K H p ys ∨ SqT X.K H p ys) ∧ ∀ l, H l = none → Q (.ref l) (upd H l (.lst ys))) ta)) : EvO X C W e (mListO fs) := by
  obtain ⟨te, p1, s1⟩ := h
  refine ⟨_, hp _ p1, fun F H σ ε Q R q => ?_⟩
  refine s1 F H σ ε _ R (q.bind.imp (fun ds e q1 vs F1 H1 R1 st1 r1 => ?_) fun x e z => z)
  unfold lft at q1
  cases r1 with
  | nil => exact q1.elim
  | cons r1 r2 =>
    cases r2 with
    | cons _ _ => exact q1.elim
    | nil =>
      rename_i d
      dsimp only at q1
      cases hd : seqOf d with
      | none => rw [hd] at q1; exact q1.elim
      | some es =>
        rw [hd] at q1
        obtain ⟨p, xs, rfl, h, r⟩ := rep_seq r1 hd
        exact ⟨p, xs, rfl, seq_up R1.fh h, fun l hl => ok_new R R1 st1 r q1 hl⟩
/-- xs[a:b] of a list, as one's own -/
def mSlO (f : Mo D) (fl fh : Mo (Option Int)) : Mo (List D) := bnd f fun d => bnd fl fun lo => bnd fh fun hi => lft ((lstOf d).map fun ds => cutD ds lo hi)
theorem eo_sl {lo hi : Option Expr} {fl fh : Mo (Option Int)} {p2 : Pos} (ha : EvD X C W a f) (hl : EoD X C W lo fl) (hh : EoD X C W hi fh) : EvO X C W (.Subscript a (.Slice lo hi none p2) pos) (mSlO f fl fh) := by
  obtain ⟨ta, p0, s0⟩ := ha
  obtain ⟨tl, p1, s1⟩ := hl
  obtain ⟨th, p2', s2⟩ := hh
  refine ⟨_, pe_slice sl_list p0 p1 p2', fun F H σ ε Q R q => ?_⟩
  refine s0 F H σ ε _ R (q.bind.imp (fun d e q1 v F1 H1 R1 st1 r1 => ?_) fun x e z => z)
  refine s1 F1 H1 σ e _ R1 (q1.bind.imp (fun l e2 q2 F2 H2 R2 st2 => ?_) fun x e z => z.imp st1)
  refine s2 F2 H2 σ e2 _ R2 (q2.bind.imp (fun u e3 q3 F3 H3 R3 st3 => ?_) fun x e z => z.imp (st1.trans st2))
  have r3 := (r1.mono st2.ff).mono st3.ff
  cases d with
  | lst ds =>
    obtain ⟨p, xs, rfl, h, r⟩ := rep_seqs r3
    exact ⟨p, xs, rfl, Same.seq R3.fh h, fun l' hl => ok_new R R3 ((st1.trans st2).trans st3) (rep_cut r l u) q3 hl⟩
  | rdl ds =>
    obtain ⟨p, xs, rfl, h, r⟩ := rep_rdl r3
    exact ⟨p, xs, rfl, Same.seq R3.fh h, fun l' hl => ok_new R R3 ((st1.trans st2).trans st3) (rep_cut r l u) q3 hl⟩
  | _ => exact q3.elim
/-- xs + ys of lists, as one's own -/
def mCatO (f g : Mo D) : Mo (List D) := bnd f fun a => bnd g fun b => lft (match a, b with
  | .lst x, .lst y => if x.length + y.length ≤ 1000000 then some (x ++ y) else none
  | _, _ => none)
theorem eo_cat (ha : EvD X C W a f) (hb : EvD X C W b g) : EvO X C W (.BinOp a .Add b pos) (mCatO f g) := by
  obtain ⟨ta, p0, s0⟩ := ha
  obtain ⟨tb, p1, s1⟩ := hb
  refine ⟨_, pe_op op_cat p0 p1, fun F H σ ε Q R q => ?_⟩
  refine s0 F H σ ε _ R (q.bind.imp (fun d e q1 v F1 H1 R1 st1 r1 => ?_) fun x e z => z)
  refine s1 F1 H1 σ e _ R1 (q1.bind.imp (fun d2 e2 q2 v2 F2 H2 R2 st2 r2 => ?_) fun x e z => z.imp st1)
  have r1' := r1.mono st2.ff
  cases d with
  | lst x =>
    cases d2 with
    | lst y =>
      obtain ⟨p, xs, rfl, h, r⟩ := rep_lst r1'
      obtain ⟨p2, ys, rfl, h2, r'⟩ := rep_lst r2
      unfold lft at q2
      dsimp only at q2
      by_cases hz : x.length + y.length ≤ 1000000
      · rw [if_pos hz] at q2
        exact ⟨p, p2, xs, ys, rfl, rfl, R2.fh _ _ h, R2.fh _ _ h2, by rw [r.length, r'.length]; exact line_big hz, fun l hl => ok_new R R2 (st1.trans st2) (r.append r') q2 hl⟩
      · rw [if_neg hz] at q2; exact q2.elim
    | _ => exact q2.elim
  | _ => exact q2.elim

/-! ### statements -/
inductive ResS where
  | nx (ε : List Ent) | rt (d : D) (ε : List Ent) | ro (ds : List D) (ε : List Ent) | bk (ε : List Ent) | ct (ε : List Ent) | ex (x : Xn) (ε : List Ent)
abbrev MoS := List Ent → Option ResS
def GoodS (K : PySem.W.Frag) (C : Ct) (W : WX) (F : Hp) (D : Ends) (r : Option ResS) : Prop := match r with
  | some (.nx ε') => ∀ F' H' σ', Rep K C F' H' σ' ε' → Same F F' → D.nx σ' H'
  | some (.rt d ε') => ∀ v F' H' σ', Rep K C F' H' σ' ε' → Same F F' → RepD K F' v d → D.rt v H'
  | some (.ro ds ε') => ∀ l vs F' H' σ', Rep K C F' H' σ' ε' → Same F F' → H' l = some (.lst vs) → F' l = none → RepL K F' vs ds → C.H0 l = none → D.rt (.ref l) H'
  | some (.bk ε') => ∀ F' H' σ', Rep K C F' H' σ' ε' → Same F F' → D.bk σ' H'
  | some (.ct ε') => ∀ F' H' σ', Rep K C F' H' σ' ε' → Same F F' → D.ct σ' H'
  | some (.ex x ε') => ∀ c od F' H' σ', Rep K C F' H' σ' ε' → Same F F' → RepX K F' H' x c od → W c od σ' H'
  | none => False
theorem GoodS.mono {K : PySem.W.Frag} {C : Ct} {W : WX} {F F' : Hp} {D : Ends} {r : Option ResS} (h : GoodS K C W F D r) (s : Same F F') : GoodS K C W F' D r := by
  cases r with
  | none => exact h
  | some r =>
    cases r with
    | nx e => exact fun F2 H2 σ2 R s2 => h F2 H2 σ2 R (s.trans s2)
    | rt d e => exact fun v F2 H2 σ2 R s2 r => h v F2 H2 σ2 R (s.trans s2) r
    | ro ds e => exact fun l vs F2 H2 σ2 R s2 => h l vs F2 H2 σ2 R (s.trans s2)
    | bk e => exact fun F2 H2 σ2 R s2 => h F2 H2 σ2 R (s.trans s2)
    | ct e => exact fun F2 H2 σ2 R s2 => h F2 H2 σ2 R (s.trans s2)
    | ex x e => exact fun c od F2 H2 σ2 R s2 r => h c od F2 H2 σ2 R (s.trans s2) r
def SdS (K : PySem.W.Frag) (C : Ct) (W : WX) (ts : TS) (g : MoS) : Prop := ∀ F H σ ε D, Rep K C F H σ ε → GoodS K C W F D (g ε) → ts D σ H
def StD (X : Cx) (C : Ct) (W : WX) (s : Stmt) (g : MoS) : Prop := ∃ ts, PS X s ts ∧ SdS X.K C W ts g
def SsD (X : Cx) (C : Ct) (W : WX) (s : List Stmt) (g : MoS) : Prop := ∃ ts, PSs X s ts ∧ SdS X.K C W ts g
def mNil : MoS := fun ε => some (.nx ε)
def mSeq (g1 g2 : MoS) : MoS := fun ε => match g1 ε with
  | some (.nx ε') => g2 ε'
  | r => r
variable {s s2 : Stmt} {ss : List Stmt} {m m2 : MoS}
theorem ss_nil : SsD X C W [] mNil := ⟨_, pss_nil, fun F H σ ε D R q => q F H σ R (Same.refl F)⟩
theorem ss_one (h : StD X C W s m) : SsD X C W [s] m := by
  obtain ⟨t, p, sd⟩ := h
  exact ⟨t, pss_one p, sd⟩
theorem ss_cons (h : StD X C W s m) (h2 : SsD X C W ss m2) : SsD X C W (s :: ss) (mSeq m m2) := by
  obtain ⟨t, p, sd⟩ := h
  obtain ⟨t2, p2, sd2⟩ := h2
  refine ⟨_, pss_cons p p2, fun F H σ ε D R q => sd F H σ ε _ R ?_⟩
  unfold mSeq at q
  cases hm : m ε with
  | none => rw [hm] at q; exact q
  | some r =>
    rw [hm] at q
    cases r with
    | nx e => exact fun F2 H2 σ2 R2 s2 => sd2 F2 H2 σ2 e D R2 (q.mono s2)
    | rt d e => exact q
    | ro d e => exact q
    | bk e => exact q
    | ct e => exact q
    | ex x e => exact q
/-- an expression's answer, then -/
def mThen {α : Type} (f : Mo α) (k : α → MoS) : MoS := fun ε => match f ε with
  | some (.ok a ε') => k a ε'
  | some (.ex x ε') => some (.ex x ε')
  | none => none
theorem then_good {α : Type} {K : PySem.W.Frag} {F H : Hp} {σ : St} {ε : List Ent} {f : Mo α} {k : α → MoS} {D : Ends} (q : GoodS K C W F D (mThen f k ε)) : Good (f ε) (fun a ε' => GoodS K C W F D (k a ε')) (ExP K C W F H σ ε) := by
  unfold mThen at q
  cases hf : f ε with
  | none => rw [hf] at q; exact q
  | some r =>
    rw [hf] at q
    cases r with
    | ok a e => exact q
    | ex x e => exact fun c od F' H' R st r => q c od F' H' σ R st.ff r
def mAsg (t : Tg) (f : Mo D) : MoS := mThen f fun d ε => match t.parts d with
  | some ds => some (.nx (setL ε t.is ds))
  | none => none
theorem st_asgG {tgt : Expr} {g : TG} {t : Tg} (hp : ∀ te, PE X e te → PS X s (tAsg te g)) (sg : SdG X.K g t) (he : EvD X C W e f) : StD X C W s (mAsg t f) := by
  obtain ⟨te, p, sd⟩ := he
  refine ⟨_, hp _ p, fun F H σ ε D R q => ?_⟩
  refine sd F H σ ε _ R ((then_good q).imp (fun d e q1 v F1 H1 R1 st1 r1 => ?_) fun x e z => z)
  cases hps : t.parts d with
  | none => rw [hps] at q1; exact q1.elim
  | some ds =>
    rw [hps] at q1
    exact sg F1 H1 σ v d ds _ R1.fh r1 hps fun vs rx => q1 F1 H1 _ (R1.setL rx) st1.ff
def mSet (i : Nat) (f : Mo D) : MoS := mThen f fun d ε => some (.nx (ε.set i (.dat d)))
theorem st_set {i : Nat} (hp : ∀ te, PE X e te → PS X s (tAsg te (gName i))) (he : EvD X C W e f) : StD X C W s (mSet i f) := by
  obtain ⟨te, p, sd⟩ := he
  refine ⟨_, hp _ p, fun F H σ ε D R q => ?_⟩
  exact sd F H σ ε _ R ((then_good q).imp (fun d e q1 v F1 H1 R1 st1 r1 => q1 F1 H1 _ (R1.set i r1) st1.ff) fun x e z => z)
def mSetO (i : Nat) (f : Mo (List D)) : MoS := mThen f fun ds ε => some (.nx (ε.set i (.own ds)))
theorem st_setO {i : Nat} (hp : ∀ te, PE X e te → PS X s (tAsg te (gName i))) {f : Mo (List D)} (he : EvO X C W e f) : StD X C W s (mSetO i f) := by
  obtain ⟨te, p, sd⟩ := he
  refine ⟨_, hp _ p, fun F H σ ε D R q => ?_⟩
  exact sd F H σ ε _ R ((then_good q).imp (fun ds e q1 l vs F1 H1 R1 st1 h1 h2 h3 h4 h5 h6 => q1 F1 H1 _ (R1.setO i h1 h2 h3 h4 h5) st1.ff) fun x e z => z)
/-- y = [..]: a statement of its own -/
theorem st_lc {i : Nat} {y : Str} {py spos : Pos} {elt iter : Expr} {ifs : List Expr} {scope : Scope} {own : List (Str × Nat)} {g : TG} {t : Tg} {fi : Mo (List D)} {ft : Mo Bool} {fe : Mo D} (hc : X.calm = true) (hN : X.N.Nodup) (hy : X.N[i]? = some y) (hyl : X.env.scope.names.lookup y = some .local)
    (hsw : swapsWith (.ListComp elt [⟨tg, iter, ifs, 0⟩] scope pos) (some (.Name y py)) spos.line X.env = pure true) (hi : EiD X C W tg iter fi) (ok : BlkOk X.N X.env.scope scope own)
    (hg : ∀ (s : Shared) (H : Hp) (Ca : Addr) (cl : List (Str × Addr)) (fp : List Addr), PG (X.blk s H scope (compEnvC scope cl Ca X.env) fp) tg g) (sg : SdG X.K g t)
    (ht : ∀ (s : Shared) (H : Hp) (Ca : Addr) (cl : List (Str × Addr)) (fp : List Addr), PtD (X.blk s H scope (compEnvC scope cl Ca X.env) fp) C W0 ifs ft)
    (he : ∀ (s : Shared) (H : Hp) (Ca : Addr) (cl : List (Str × Addr)) (fp : List Addr), EvD (X.blk s H scope (compEnvC scope cl Ca X.env) fp) C W0 elt fe)
    (nd : (own.map (·.2)).Nodup) (hin : ∀ i ∈ t.is, i ∈ own.map (·.2)) (hs : ∀ x, foldedSetIterable iter X.env x = pure x := by intro _; rfl) :
    StD X C W (.Assign [.Name y py] (.ListComp elt [⟨tg, iter, ifs, 0⟩] scope pos) spos) (mSetO i (mLc (own.map (·.2)) fi t ft fe)) := by
  obtain ⟨wi, p, si⟩ := hi
  have sd := sd_lc (W := W) nd hin si sg (sd_canT (K := X.K) (C := C) (W := W0) (f := ft)) (sd_can (K := X.K) (C := C) (W := W0) (f := fe))
  refine ⟨_, ps_setLc (tt := canT X.K C W0 ft) (te := canE X.K C W0 fe) hc hN hy hyl hsw p ok hg (fun s H Ca cl fp => (ht s H Ca cl fp).can) (fun s H Ca cl fp => (he s H Ca cl fp).can) hs, fun F H σ ε D R q => ?_⟩
  exact sd F H σ ε _ R ((then_good q).imp (fun ds e q1 l vs F1 H1 R1 st1 h1 h2 h3 h4 h5 h6 => q1 F1 H1 _ (R1.setO i h1 h2 h3 h4 h5) st1.ff) fun x e z => z)
def mRet (f : Mo D) : MoS := mThen f fun d ε => some (.rt d ε)
theorem st_ret (he : EvD X C W e f) : StD X C W (.Return (some e) pos) (mRet f) := by
  obtain ⟨te, p, sd⟩ := he
  refine ⟨_, ps_ret p, fun F H σ ε D R q => ?_⟩
  exact sd F H σ ε _ R ((then_good q).imp (fun d e q1 v F1 H1 R1 st1 r1 => q1 v F1 H1 σ R1 st1.ff r1) fun x e z => z)
def mRetO (f : Mo (List D)) : MoS := mThen f fun ds ε => some (.ro ds ε)
theorem st_retO {f : Mo (List D)} (he : EvO X C W e f) : StD X C W (.Return (some e) pos) (mRetO f) := by
  obtain ⟨te, p, sd⟩ := he
  refine ⟨_, ps_ret p, fun F H σ ε D R q => ?_⟩
  exact sd F H σ ε _ R ((then_good q).imp (fun ds e q1 l vs F1 H1 R1 st1 h1 h2 h3 h4 h5 h6 => q1 l vs F1 H1 σ R1 st1.ff h1 h2 h3 h4) fun x e z => z)
def mDrop (f : Mo D) : MoS := mThen f fun _ ε => some (.nx ε)
theorem st_expr (he : EvD X C W e f) (hs : swapsWith e none pos.line X.env = pure false := by rfl) : StD X C W (.Expr e pos) (mDrop f) := by
  obtain ⟨te, p, sd⟩ := he
  refine ⟨_, ps_expr p hs, fun F H σ ε D R q => ?_⟩
  exact sd F H σ ε _ R ((then_good q).imp (fun d e q1 v F1 H1 R1 st1 r1 => q1 F1 H1 σ R1 st1.ff) fun x e z => z)
def mIfS (t : Mo Bool) (m m2 : MoS) : MoS := mThen t fun b => if b = true then m else m2
theorem st_if {t : Mo Bool} {sa sb : List Stmt} (hc : TeD X C W c t) (ha : SsD X C W sa m) (hb : SsD X C W sb m2) : StD X C W (.If c sa sb pos) (mIfS t m m2) := by
  obtain ⟨tc, p0, s0⟩ := hc
  obtain ⟨ta, p1, s1⟩ := ha
  obtain ⟨tb, p2, s2⟩ := hb
  refine ⟨_, ps_if p0 p1 p2, fun F H σ ε D R q => ?_⟩
  refine s0 F H σ ε _ R ((then_good q).imp (fun d e q1 F1 H1 R1 st1 => ?_) fun x e z => z)
  cases d with
  | true =>
    refine iteT ?_
    rw [if_pos rfl] at q1
    exact s1 F1 H1 σ e D R1 (q1.mono st1.ff)
  | false =>
    refine iteF ?_
    rw [if_neg Bool.false_ne_true] at q1
    exact s2 F1 H1 σ e D R1 (q1.mono st1.ff)
theorem st_pass : StD X C W (.Pass pos) mNil := ⟨_, ps_pass, fun F H σ ε D R q => q F H σ R (Same.refl F)⟩
theorem st_break : StD X C W (.Break pos) (fun ε => some (.bk ε)) := ⟨_, ps_break, fun F H σ ε D R q => q F H σ R (Same.refl F)⟩
theorem st_continue : StD X C W (.Continue pos) (fun ε => some (.ct ε)) := ⟨_, ps_continue, fun F H σ ε D R q => q F H σ R (Same.refl F)⟩
/-- xs.append(e) -/
def mApp (i : Nat) (f : Mo D) : MoS := fun ε0 => match (ε0[i]?).bind Ent.get with
  | none => none
  | some _ => mThen f (fun d ε => match ε[i]? with
    | none => none
    | some e => match e.get with
      | none => none
      | some ps => if ps.length < 1000000 then some (.nx (ε.set i (e.put (ps ++ [d])))) else none) ε0
theorem st_app {i : Nat} (hp : ∀ te, PE X e te → PS X s (tDrop (tBM X.K "list" rAppend (tVar i) (tCons te tNil)))) (he : EvD X C W e f) : StD X C W s (mApp i f) := by
  obtain ⟨te, p, sd⟩ := he
  refine ⟨_, hp _ p, fun F H σ ε D R q => ?_⟩
  unfold mApp at q
  cases h0 : ε[i]? with
  | none => rw [h0] at q; exact q.elim
  | some e0 =>
    cases h1 : e0.get with
    | none => rw [h0] at q; simp only [Option.bind_some, h1] at q; exact q.elim
    | some p0 =>
      rw [h0] at q
      simp only [Option.bind_some, h1] at q
      obtain ⟨l, us0, a0, b0, _⟩ := R.at h0 h1
      refine ⟨.ref l, a0, .inl ⟨rfl, us0, .inl (.inl b0)⟩, ?_⟩
      refine sd F H σ ε _ R ((then_good q).imp (fun d e q1 v F1 H1 R1 st1 r1 => ?_) fun x e z => z)
      cases h2 : e[i]? with
      | none => rw [h2] at q1; exact q1.elim
      | some e1 =>
        rw [h2] at q1
        dsimp only at q1
        cases h3 : e1.get with
        | none => rw [h3] at q1; exact q1.elim
        | some ps =>
          rw [h3] at q1
          dsimp only at q1
          by_cases hz : ps.length < 1000000
          · rw [if_pos hz] at q1
            obtain ⟨l2, us, a, b, c, d', hm⟩ := R1.at h2 h3
            rw [a0] at a
            cases a
            obtain ⟨R2, st2⟩ := R1.callQ (F' := F1) (H' := upd H1 l (.lst (us ++ [v]))) (ps' := ps ++ [d]) h2 h3 a0 (Same.refl F1) (fun x o q => by
              rw [upd_ne (fun z => by rw [z, c] at q; cases q)]; exact R1.fh x o q) (fun x o q n => by rw [upd_ne n]; exact q) (fun _ _ => rfl) upd_same (d'.append (.cons r1 .nil))
            exact ⟨l, us, v, rfl, rfl, b, by rw [d'.length]; exact Nat.lt_of_lt_of_le hz (by decide), q1 F1 _ σ R2 st1.ff⟩
          · rw [if_neg hz] at q1; exact q1.elim
/-! ### for -/
def forGo (t : Tg) (body : MoS) : List D → MoS
  | [] => fun ε => some (.nx ε)
  | d :: r => fun ε => match t.parts d with
    | none => none
    | some ds => match body (setL ε t.is ds) with
      | some (.nx ε') => forGo t body r ε'
      | some (.ct ε') => forGo t body r ε'
      | some (.bk ε') => some (.nx ε')
      | r => r
def mFor (fi : Mo (List D)) (t : Tg) (body : MoS) : MoS := mThen fi fun ds => forGo t body ds
theorem st_for {iter : Expr} {body : List Stmt} {g : TG} {t : Tg} {fi : Mo (List D)} (hi : EiD X C W tg iter fi) (hb : SsD X C W body m) (sg : SdG X.K g t)
    (hp : ∀ wi tb, PI X tg iter wi → PSs X body tb → PS X s (tFor wi g tb)) : StD X C W s (mFor fi t m) := by
  obtain ⟨wi, p1, si⟩ := hi
  obtain ⟨tb, p2, sb⟩ := hb
  refine ⟨_, hp _ _ p1 p2, fun F H σ ε D R q => ?_⟩
  refine si F H σ ε _ R ((then_good q).imp (fun ds e q1 J F1 H1 R1 st1 it => ?_) fun x e z => z)
  have q1 := q1.mono st1.ff
  refine ⟨fun i k σ' H' => k = ds.length - i ∧ i ≤ ds.length ∧ ∃ F' ε', Rep X.K C F' H' σ' ε' ∧ Same F1 F' ∧ GoodS X.K C W F' D (forGo t m (ds.drop i) ε'), ⟨ds.length, by simp, Nat.zero_le _, F1, e, R1, Same.refl F1, by rw [List.drop_zero]; exact q1⟩, ?_⟩
  rintro i k σ2 H2 ⟨rfl, hi, F2, ε2, R2, s12, gs⟩
  by_cases hlt : i < ds.length
  · refine .inr ⟨it.go F2 H2 i s12 R2.fh hlt, _, fun σ' H' w => ⟨ds.length - (i + 1), by omega, rfl, by omega, w⟩, fun x H3 y => ?_⟩
    obtain ⟨d, F3, hd, st3, rd⟩ := it.yl F2 H2 i x H3 s12 R2.fh hlt y
    have R3 := R2.step st3
    have hds : ds.drop i = d :: ds.drop (i + 1) := by
      obtain ⟨hl, e2⟩ := List.getElem?_eq_some_iff.mp hd
      rw [List.drop_eq_getElem_cons hl, e2]
    rw [hds] at gs
    unfold forGo at gs
    cases hps : t.parts d with
    | none => rw [hps] at gs; exact gs.elim
    | some ps =>
      rw [hps] at gs
      dsimp only at gs
      refine sg F3 H3 σ2 x d ps _ R3.fh rd hps fun xs rx => ?_
      have R4 := R3.setL (is := t.is) rx
      have gs := gs.mono st3.ff
      refine sb F3 H3 _ (setL ε2 t.is ps) _ R4 ?_
      cases hb : m (setL ε2 t.is ps) with
      | none => rw [hb] at gs; exact gs.elim
      | some r =>
        rw [hb] at gs
        cases r with
        | nx e5 => exact fun F5 H5 σ5 R5 s5 => ⟨F5, e5, R5, (s12.trans st3.ff).trans s5, gs.mono s5⟩
        | ct e5 => exact fun F5 H5 σ5 R5 s5 => ⟨F5, e5, R5, (s12.trans st3.ff).trans s5, gs.mono s5⟩
        | bk e5 => exact gs
        | rt d5 e5 => exact gs
        | ro d5 e5 => exact gs
        | ex x5 e5 => exact gs
  · have e0 : i = ds.length := by omega
    subst e0
    rw [List.drop_length] at gs
    exact .inl ⟨it.st F2 H2 _ s12 R2.fh (Nat.le_refl _), gs F2 H2 σ2 R2 (Same.refl F2)⟩
/-! ### while, by fuel -/
def whGo (t : Mo Bool) (body : MoS) : Nat → MoS
  | 0 => fun _ => none
  | n + 1 => mThen t fun b => if b = true then (fun ε => match body ε with
      | some (.nx ε') => whGo t body n ε'
      | some (.ct ε') => whGo t body n ε'
      | some (.bk ε') => some (.nx ε')
      | r => r) else fun ε => some (.nx ε)
theorem st_while {c : Expr} {body : List Stmt} {t : Mo Bool} {fuel : Nat} (hc : TeD X C W c t) (hb : SsD X C W body m) (hp : ∀ tc tb, PT X c tc → PSs X body tb → PS X s (tWhile tc tb)) : StD X C W s (whGo t m fuel) := by
  obtain ⟨tc, p1, s1⟩ := hc
  obtain ⟨tb, p2, sb⟩ := hb
  refine ⟨_, hp _ _ p1 p2, fun F H σ ε D R q => ?_⟩
  refine ⟨fun k σ' H' => ∃ F' ε', Rep X.K C F' H' σ' ε' ∧ GoodS X.K C W F' D (whGo t m k ε'), ⟨fuel, F, ε, R, q⟩, ?_⟩
  rintro k σ2 H2 ⟨F2, ε2, R2, gs⟩
  cases k with
  | zero => exact gs.elim
  | succ k =>
    refine s1 F2 H2 σ2 ε2 _ R2 ((then_good gs).imp (fun b e q1 F3 H3 R3 st3 => ?_) fun x e z => z)
    cases b with
    | false =>
      refine iteF ?_
      exact q1 F3 H3 σ2 R3 st3.ff
    | true =>
      refine iteT ?_
      rw [if_pos rfl] at q1
      refine ⟨fun σ' H' => ∃ F' ε', Rep X.K C F' H' σ' ε' ∧ GoodS X.K C W F' D (whGo t m k ε'), fun σ' H' w => ⟨k, Nat.lt_succ_self k, w⟩, ?_⟩
      refine sb F3 H3 _ e _ R3 ?_
      have q1 := q1.mono st3.ff
      cases hb : m e with
      | none => rw [hb] at q1; exact q1.elim
      | some r =>
        rw [hb] at q1
        cases r with
        | nx e5 => exact fun F5 H5 σ5 R5 s5 => ⟨F5, e5, R5, q1.mono s5⟩
        | ct e5 => exact fun F5 H5 σ5 R5 s5 => ⟨F5, e5, R5, q1.mono s5⟩
        | bk e5 => exact q1
        | rt d5 e5 => exact q1
        | ro d5 e5 => exact q1
        | ex x5 e5 => exact q1
end
end DL

set_option Elab.async false
set_option linter.all false
set_option maxRecDepth 100000
namespace DL
open PySem PySem.Spec L2

/-! ### defs -/
def ansOf : Option ResS → Option Ans
  | some (.nx _) => some (.ret .non)
  | some (.rt d _) => some (.ret d)
  | some (.ex x _) => some (.exc x)
  | _ => none
def env0 (n : Nat) (ds : List D) : List Ent := ds.map .dat ++ List.replicate (n - ds.length) .un
def runP (n : Nat) (g : MoS) (ds : List D) : Option Ans := ansOf (g (env0 n ds))
theorem rep_start {K : PySem.W.Frag} {F H : Hp} {vs : List V} {ds : List D} {N : List Str} (s : Same F H) (r : RepL K F vs ds) : Rep K ⟨F, H, none, none⟩ F H (L2.start N vs) (env0 N.length ds) where
  fh := s
  ff := Same.refl F
  old := fun _ _ => rfl
  keep := fun _ _ h _ => h
  tr := fun _ h => h
  len := by
    unfold L2.start env0
    rw [List.length_append, List.length_append, List.length_map, List.length_map, List.length_replicate, List.length_replicate, r.length]
  ent := fun i e he => by
    unfold env0 at he
    unfold L2.start
    by_cases hi : i < ds.length
    · rw [List.getElem?_append_left (by rw [List.length_map]; exact hi), List.getElem?_map] at he
      rw [List.getElem?_append_left (by rw [List.length_map, r.length]; exact hi), List.getElem?_map]
      cases hd : ds[i]? with
      | none => rw [hd] at he; cases he
      | some d =>
        rw [hd] at he
        cases he
        obtain ⟨v, h1, h2⟩ := r.get hd
        exact ⟨v, by rw [h1]; rfl, h2⟩
    · rw [List.getElem?_append_right (by rw [List.length_map]; omega)] at he
      have := List.mem_of_getElem? he
      rw [List.eq_of_mem_replicate this]
      trivial
  dis := fun i j l e e' h1 h2 h3 h4 h5 h6 => by
    exfalso
    unfold env0 at h3
    have hm := List.mem_of_getElem? h3
    rcases List.mem_append.mp hm with h | h
    · obtain ⟨d, _, rfl⟩ := List.mem_map.mp h
      cases h5
    · rw [List.eq_of_mem_replicate h] at h5
      cases h5
section
variable {P : Program} {w : World} {K : PySem.W.Frag} {mg : Str → Option Value} {base : Heap}
abbrev CXX (P : Program) (w : World) : CXT := L2.CX P w
/-- a def without mutable arguments -/
theorem fn_P {x qual : Str} {st : Stmt} {f : Addr} {fd : FuncData} {N ps : List Str} {k : Nat} {g : MoS} {m : List D → Option Ans} (F : Fun K x qual st f fd) (S : FnScope N ps (defScope st))
    (hb : ∀ (cdv : Value) (A : Around) (outer : List Env) (s : Shared) (H : Hp) (E : XK) (C : Ct), C.A = none → Room k (A.deeper (PyProof.Rows.envOfC qual (defScope st) s.heap.objs.size f cdv)) → Takes (cxOf (L2.CX P w) P w K mg base N qual (defScope st) f cdv A outer s H E) (fun c d _ H' => E c d H') →
      SsD (cxOf (L2.CX P w) P w K mg base N qual (defScope st) f cdv A outer s H E) C (fun c d _ H' => E c d H') (defBody st) g)
    (hm : ∀ ds a, ds.length = ps.length → m ds = some a → runP N.length g ds = some a) : FnOk P w K mg base (CXX P w) (k + 1) f fd ps (SpP K ps.length m) := by
  refine F.okX S (fun vs H Q E h => h.1) (fun cdv A outer s H vs Q E hr h => ?_)
  obtain ⟨hl, F0, ds, sF, r, h⟩ := h
  obtain ⟨ts, p, sd⟩ := hb cdv A outer s H E ⟨F0, H, none, none⟩ rfl hr (takes_of rfl rfl rfl rfl)
  refine ⟨ts, p, sd F0 H _ (env0 N.length ds) _ (rep_start sF r) ?_⟩
  cases hmd : m ds with
  | none => rw [hmd] at h; exact h.elim
  | some a =>
    have ha := hm ds a (by rw [← r.length]; exact hl) hmd
    rw [hmd] at h
    have ste : ∀ {F' H' σ' ε'}, Rep K ⟨F0, H, none, none⟩ F' H' σ' ε' → Ste F0 H F' H' := fun R => ⟨R.ff, R.fh, R.old, fun b o e => R.keep b o e (by intro z; cases z)⟩
    unfold runP ansOf at ha
    cases hg : g (env0 N.length ds) with
    | none => rw [hg] at ha; cases ha
    | some r2 =>
      rw [hg] at ha
      cases r2 with
      | nx e => cases ha; exact fun F' H' σ' R s2 => h .non F' H' (ste R) .non
      | rt d e => cases ha; exact fun v F' H' σ' R s2 rv => h v F' H' (ste R) rv
      | ex x e => cases ha; exact fun c od F' H' σ' R s2 rx => h c od F' H' (ste R) rx
      | ro d e => cases ha
      | bk e => cases ha
      | ct e => cases ha
/-- a def that gives a new list -/
def SpO (K : PySem.W.Frag) (n : Nat) (m : List D → Option (List D)) : Sp := fun vs H Q E => vs.length = n ∧ ∃ F ds, Same F H ∧ RepL K F vs ds ∧ match m ds with
  | some es => ∀ l us F' H', Ste F H F' H' → H' l = some (.lst us) → F' l = none → RepL K F' us es → H l = none → Q (.ref l) H'
  | none => False
theorem fn_O {x qual : Str} {st : Stmt} {f : Addr} {fd : FuncData} {N ps : List Str} {k : Nat} {g : MoS} {m : List D → Option (List D)} (F : Fun K x qual st f fd) (S : FnScope N ps (defScope st))
    (hb : ∀ (cdv : Value) (A : Around) (outer : List Env) (s : Shared) (H : Hp) (E : XK) (C : Ct), C.A = none → Room k (A.deeper (PyProof.Rows.envOfC qual (defScope st) s.heap.objs.size f cdv)) → Takes (cxOf (L2.CX P w) P w K mg base N qual (defScope st) f cdv A outer s H E) (fun c d _ H' => E c d H') →
      SsD (cxOf (L2.CX P w) P w K mg base N qual (defScope st) f cdv A outer s H E) C (fun c d _ H' => E c d H') (defBody st) g)
    (hm : ∀ ds es, ds.length = ps.length → m ds = some es → ∃ ε, g (env0 N.length ds) = some (.ro es ε)) : FnOk P w K mg base (CXX P w) (k + 1) f fd ps (SpO K ps.length m) := by
  refine F.okX S (fun vs H Q E h => h.1) (fun cdv A outer s H vs Q E hr h => ?_)
  obtain ⟨hl, F0, ds, sF, r, h⟩ := h
  obtain ⟨ts, p, sd⟩ := hb cdv A outer s H E ⟨F0, H, none, none⟩ rfl hr (takes_of rfl rfl rfl rfl)
  refine ⟨ts, p, sd F0 H _ (env0 N.length ds) _ (rep_start sF r) ?_⟩
  cases hmd : m ds with
  | none => rw [hmd] at h; exact h.elim
  | some es =>
    obtain ⟨ε, hg⟩ := hm ds es (by rw [← r.length]; exact hl) hmd
    rw [hmd] at h
    rw [hg]
    exact fun l us F' H' σ' R s2 h1 h2 h3 h4 => h l us F' H' ⟨R.ff, R.fh, R.old, fun b o e => R.keep b o e (by intro z; cases z)⟩ h1 h2 h3 h4
/-- a def whose first argument is a list that it changes -/
def envQ (n : Nat) (ps ds : List D) : List Ent := .io ps :: (ds.map .dat ++ List.replicate (n - (ds.length + 1)) .un)
def outQ : Option ResS → Option (Ans × List D)
  | some (.nx (.io ps :: _)) => some (.ret .non, ps)
  | some (.rt d (.io ps :: _)) => some (.ret d, ps)
  | some (.ex x (.io ps :: _)) => some (.exc x, ps)
  | _ => none
theorem rep_startQ {K : PySem.W.Frag} {F H : Hp} {l : Addr} {us vs : List V} {ps ds : List D} {N : List Str} (s : Same F H) (h1 : H l = some (.lst us)) (h2 : F l = none) (h3 : RepL K F us ps) (r : RepL K F vs ds) :
    Rep K ⟨F, H, some l, none⟩ F H (L2.start N (.ref l :: vs)) (envQ N.length ps ds) where
  fh := s
  ff := Same.refl F
  old := fun _ _ => rfl
  keep := fun _ _ h _ => h
  tr := fun _ h => h
  len := by
    have := r.length
    simp only [L2.start, envQ, List.length_append, List.length_map, List.length_cons, List.length_replicate]
    omega
  ent := fun i e he => by
    unfold envQ at he
    unfold L2.start
    cases i with
    | zero =>
      cases he
      exact ⟨l, us, rfl, h1, h2, h3, rfl⟩
    | succ i =>
      rw [List.getElem?_cons_succ] at he
      rw [List.map_cons, List.cons_append, List.getElem?_cons_succ]
      by_cases hi : i < ds.length
      · rw [List.getElem?_append_left (by rw [List.length_map]; exact hi), List.getElem?_map] at he
        rw [List.getElem?_append_left (by rw [List.length_map, r.length]; exact hi), List.getElem?_map]
        cases hd : ds[i]? with
        | none => rw [hd] at he; cases he
        | some d =>
          rw [hd] at he
          cases he
          obtain ⟨v, h1, h2⟩ := r.get hd
          exact ⟨v, by rw [h1]; rfl, h2⟩
      · rw [List.getElem?_append_right (by rw [List.length_map]; omega)] at he
        have := List.mem_of_getElem? he
        rw [List.eq_of_mem_replicate this]
        trivial
  dis := fun i j m e e' k1 k2 k3 k4 k5 k6 => by
    have only : ∀ (i : Nat) (e : Ent), (envQ N.length ps ds)[i]? = some e → e.mut = true → i = 0 := fun i e he hm => by
      cases i with
      | zero => rfl
      | succ i =>
        exfalso
        unfold envQ at he
        rw [List.getElem?_cons_succ] at he
        have hm2 := List.mem_of_getElem? he
        rcases List.mem_append.mp hm2 with h | h
        · obtain ⟨d, _, rfl⟩ := List.mem_map.mp h
          cases hm
        · rw [List.eq_of_mem_replicate h] at hm
          cases hm
    rw [only i e k3 k5, only j e' k4 k6]
theorem fn_Q {x qual : Str} {st : Stmt} {f : Addr} {fd : FuncData} {N ps : List Str} {k : Nat} {g : MoS} {m : List D → List D → Option (Ans × List D)} (F : Fun K x qual st f fd) (S : FnScope N ps (defScope st))
    (hb : ∀ (cdv : Value) (A : Around) (outer : List Env) (s : Shared) (H : Hp) (E : XK) (C : Ct), Room k (A.deeper (PyProof.Rows.envOfC qual (defScope st) s.heap.objs.size f cdv)) → Takes (cxOf (L2.CX P w) P w K mg base N qual (defScope st) f cdv A outer s H E) (fun c d _ H' => E c d H') →
      SsD (cxOf (L2.CX P w) P w K mg base N qual (defScope st) f cdv A outer s H E) C (fun c d _ H' => E c d H') (defBody st) g)
    (hm : ∀ pl ds a, ds.length + 1 = ps.length → m pl ds = some a → outQ (g (envQ N.length pl ds)) = some a) : FnOk P w K mg base (CXX P w) (k + 1) f fd ps (SpQ K ps.length m) := by
  refine F.okX S (fun vs H Q E h => h.1) (fun cdv A outer s H vs Q E hr h => ?_)
  obtain ⟨hl, F0, l, us, ws, pl, ds, rfl, sF, h1, h2, h3, r, h⟩ := h
  obtain ⟨ts, p, sd⟩ := hb cdv A outer s H E ⟨F0, H, some l, none⟩ hr (takes_of rfl rfl rfl rfl)
  refine ⟨ts, p, sd F0 H _ (envQ N.length pl ds) _ (rep_startQ sF h1 h2 h3 r) ?_⟩
  cases hmd : m pl ds with
  | none => rw [hmd] at h; exact h.elim
  | some a =>
    have ha := hm pl ds a (by rw [← r.length]; exact hl) hmd
    rw [hmd] at h
    have io : ∀ {F' H' σ' ps' r'}, Rep K ⟨F0, H, some l, none⟩ F' H' σ' (.io ps' :: r') → (∀ b o, H b = some o → b ≠ l → H' b = some o) ∧ ∃ us', H' l = some (.lst us') ∧ RepL K F' us' ps' := fun {F' H' σ' ps' r'} R => by
      refine ⟨fun b o e n => R.keep b o e (fun z => n (Option.some.inj z).symm), ?_⟩
      obtain ⟨l2, us', _, b, _, d, e⟩ := R.ent 0 _ rfl
      cases e
      exact ⟨us', b, d⟩
    unfold outQ at ha
    cases hg : g (envQ N.length pl ds) with
    | none => rw [hg] at ha; cases ha
    | some r2 =>
      rw [hg] at ha
      cases r2 with
      | nx e =>
        cases e with
        | nil => cases ha
        | cons e0 er =>
          cases e0 with
          | io ps' =>
            cases ha
            intro F' H' σ' R s2
            obtain ⟨k1, us', k2, k3⟩ := io R
            exact h .non F' H' us' s2 R.fh k1 R.old k2 k3 .non
          | _ => cases ha
      | rt d e =>
        cases e with
        | nil => cases ha
        | cons e0 er =>
          cases e0 with
          | io ps' =>
            cases ha
            intro v F' H' σ' R s2 rv
            obtain ⟨k1, us', k2, k3⟩ := io R
            exact h v F' H' us' s2 R.fh k1 R.old k2 k3 rv
          | _ => cases ha
      | ex x e =>
        cases e with
        | nil => cases ha
        | cons e0 er =>
          cases e0 with
          | io ps' =>
            cases ha
            intro c od F' H' σ' R s2 rx
            obtain ⟨k1, us', k2, k3⟩ := io R
            exact h c od F' H' us' s2 R.fh k1 R.old k2 k3 rx
          | _ => cases ha
      | ro d e => cases ha
      | bk e => cases ha
      | ct e => cases ha
end
section
variable {X : Cx} {C : Ct} {W : WX} {e : Expr}
/-- a call that gives a new list -/
def mFnO (n : Nat) (m : List D → Option (List D)) (f : Mo (List D)) : Mo (List D) := bnd f fun ds => lft (if ds.length = n then m ds else none)
theorem eo_fn {n : Nat} {m : List D → Option (List D)} {es : List Expr} {fs : Mo (List D)} (ha : EaD X C W es fs) (hp : ∀ ta, PA X es ta → PE X e (tCallS (SpO X.K n m) (WE W) ta)) : EvO X C W e (mFnO n m fs) := by
  obtain ⟨ta, p1, s1⟩ := ha
  refine ⟨_, hp _ p1, fun F H σ ε Q R q => ?_⟩
  refine s1 F H σ ε _ R (q.bind.imp (fun ds e q1 vs F1 H1 R1 st1 r1 => ?_) fun x e z => z)
  unfold lft at q1
  by_cases hl : ds.length = n
  · rw [if_pos hl] at q1
    refine ⟨by rw [r1.length]; exact hl, F1, ds, R1.fh, r1, ?_⟩
    cases hm : m ds with
    | none => rw [hm] at q1; exact q1.elim
    | some es =>
      rw [hm] at q1
      intro l us F' H' st h1 h2 h3 h4
      obtain ⟨a1, a2, a3⟩ := R1.newApart h4
      refine q1 l us F' H' (R1.step st) (st1.trans st.stp) h1 h2 h3 a2 a3 ?_
      cases qq : H l with
      | none => rfl
      | some o => exact absurd h4 (st1.tr l (by rw [qq]; exact fun z => by cases z))
  · rw [if_neg hl] at q1; exact q1.elim
end
/-! ### the law itself: a list of ints comes in, True comes out -/
def SpLaw (K : PySem.W.Frag) : Sp := fun vs H Q _ => ∃ (a : Addr) (ns : List Int), vs = [.ref a] ∧ SqL K H a (ns.map V.int) ∧ ns.length ≤ 63 ∧ (∀ z ∈ ns, Builtin.Int.intBits z ≤ 1048576) ∧ ∀ H', Q (.bl true) H'
theorem fn_law {P : Program} {w : World} {K : PySem.W.Frag} {mg : Str → Option Value} {base : Heap} {x qual : Str} {st : Stmt} {f : Addr} {fd : FuncData} {N : List Str} {k : Nat} {g : MoS} {p : Str} (F : Fun K x qual st f fd) (S : FnScope N [p] (defScope st))
    (hb : ∀ (cdv : Value) (A : Around) (outer : List Env) (s : Shared) (H : Hp) (E : XK) (C : Ct), C.A = none → Room k (A.deeper (PyProof.Rows.envOfC qual (defScope st) s.heap.objs.size f cdv)) → Takes (cxOf (L2.CX P w) P w K mg base N qual (defScope st) f cdv A outer s H E) (fun c d _ H' => E c d H') →
      SsD (cxOf (L2.CX P w) P w K mg base N qual (defScope st) f cdv A outer s H E) C (fun c d _ H' => E c d H') (defBody st) g)
    (hm : ∀ ns : List Int, ns.length ≤ 63 → (∀ z ∈ ns, Builtin.Int.intBits z ≤ 1048576) → runP N.length g [.rdl (ns.map D.int)] = some (.ret (.bl true))) : FnOk P w K mg base (CXX P w) (k + 1) f fd [p] (SpLaw K) := by
  refine F.okX S (fun vs H Q E h => by obtain ⟨a, ns, rfl, _⟩ := h; rfl) (fun cdv A outer s H vs Q E hr h => ?_)
  obtain ⟨a, ns, rfl, hS, hl, hz, q⟩ := h
  obtain ⟨ts, p, sd⟩ := hb cdv A outer s H E ⟨H, H, none, none⟩ rfl hr (takes_of rfl rfl rfl rfl)
  refine ⟨ts, p, sd H H _ (env0 N.length [.rdl (ns.map D.int)]) _ (rep_start (Same.refl H) (.cons (.rdl hS (RepL.of_ints ns)) .nil)) ?_⟩
  have ha := hm ns hl hz
  unfold runP ansOf at ha
  cases hg : g (env0 N.length [.rdl (ns.map D.int)]) with
  | none => rw [hg] at ha; cases ha
  | some r2 =>
    rw [hg] at ha
    cases r2 with
    | nx e => cases ha
    | rt d e =>
      cases ha
      intro v F' H' σ' R s2 rv
      rw [rep_bl rv]
      exact q H'
    | ex x e => cases ha
    | ro d e => cases ha
    | bk e => cases ha
    | ct e => cases ha
section
variable {X : Cx} {C : Ct} {W : WX}
theorem cl_fn {k n : Nat} {f : Addr} {fd : FuncData} {ps : List Str} {m : List D → Option Ans} {x : Str} {p pos : Pos} {e : Expr} {es : List Expr} {fs : Mo (List D)} (F : FnOk X.prog X.w X.K X.mg X.base (L2.CX X.prog X.w) k f fd ps (SpP X.K n m)) (tk : Takes X W) (hr : Room k X.A) (hg : Gl X x) (hm : X.mg x = some (.ref f)) (hk : PySem.W.keepIn X.K (.ref f) = true) (hb : Binds X.K fd ps [])
    (ha : EaD X C W (e :: es) fs) (hdb : (x == ("__debug__" : Str)) = false := by decide) (he : starEach (e :: es) X.env = (false, eval e X.env) :: starEach es X.env := by rfl) (hpl : (backTo pos (starEach es X.env)).any (·.1) = false := by rfl) :
    EvD X C W (.Call (.Name x p) (e :: es) [] pos) (mFn n m fs) := ev_fn ha fun _ pa => pe_callS F hr hg hm hk hb (fun σ => passAt tk σ) pa hdb he hpl
theorem cl_fnO {k n : Nat} {f : Addr} {fd : FuncData} {ps : List Str} {m : List D → Option (List D)} {x : Str} {p pos : Pos} {e : Expr} {es : List Expr} {fs : Mo (List D)} (F : FnOk X.prog X.w X.K X.mg X.base (L2.CX X.prog X.w) k f fd ps (SpO X.K n m)) (tk : Takes X W) (hr : Room k X.A) (hg : Gl X x) (hm : X.mg x = some (.ref f)) (hk : PySem.W.keepIn X.K (.ref f) = true) (hb : Binds X.K fd ps [])
    (ha : EaD X C W (e :: es) fs) (hdb : (x == ("__debug__" : Str)) = false := by decide) (he : starEach (e :: es) X.env = (false, eval e X.env) :: starEach es X.env := by rfl) (hpl : (backTo pos (starEach es X.env)).any (·.1) = false := by rfl) :
    EvO X C W (.Call (.Name x p) (e :: es) [] pos) (mFnO n m fs) := eo_fn ha fun _ pa => pe_callS F hr hg hm hk hb (fun σ => passAt tk σ) pa hdb he hpl
theorem cl_fnQ {k n i : Nat} {f : Addr} {fd : FuncData} {ps : List Str} {m : List D → List D → Option (Ans × List D)} {x : Str} {p pos : Pos} {e : Expr} {es : List Expr} {fs : Mo (List D)} (F : FnOk X.prog X.w X.K X.mg X.base (L2.CX X.prog X.w) k f fd ps (SpQ X.K n m)) (tk : Takes X W) (hr : Room k X.A) (hg : Gl X x) (hm : X.mg x = some (.ref f)) (hk : PySem.W.keepIn X.K (.ref f) = true) (hb : Binds X.K fd ps [])
    (hn : PE X e (tVar i)) (ha : EaD X C W es fs) (hdb : (x == ("__debug__" : Str)) = false := by decide) (he : starEach (e :: es) X.env = (false, eval e X.env) :: starEach es X.env := by rfl) (hpl : (backTo pos (starEach es X.env)).any (·.1) = false := by rfl) :
    EvD X C W (.Call (.Name x p) (e :: es) [] pos) (mFnQ i n m fs) := ev_fnQ hn ha fun _ pa => pe_callS F hr hg hm hk hb (fun σ => passAt tk σ) (pa_cons hn pa he) hdb he hpl
end
end DL

set_option Elab.async false
set_option linter.all false
set_option maxRecDepth 100000
/-! list(reversed(xs)) over the model -/
namespace DLR
open PySem PySem.W PyProof.Rows RT
open Sem (wp)
section
variable {prog : Program} {w : World} {A : Around} {E : Value → Shared → Prop} {s : Shared}
theorem ext_rev {R : Result → Shared → Prop} {it l S : Addr} {items : Array Value} (hh : A.handled = none) (hit : s.heap.IsRevIter it l ((items.size : Int) - 1)) (hl : s.heap.IsList l items) (hne : l ≠ it) (hn : items.size ≤ sizeLine) (res : Value) (c0 : Nat)
    (hS : s.heap.get? S = some { cls := .type "list", data := .seq #[] c0 }) (hSi : S ≠ it) (hSl : S ≠ l)
    (hR : ∀ h' tk acc' c', (∀ b o, b ≠ S → b ≠ it → s.heap.get? b = some o → h'.get? b = some o) → h'.get? S = some { cls := .type "list", dict := none, data := .seq acc' c', slots := #[] } →
      ItemsOf (fun i v => items[items.size - 1 - i]? = some v) acc' items.size → R (.ok (.ret res)) { s with heap := h', toks := tk }) :
    wpAny (model prog w) A.in1 (Builtin.List.listExtendWith (.ref S) (.ref it) res)
      (fun fin s' => match fin with | .done f => R (.ok f) s' | .again c' => c'.quiet = true ∧ codeAny (model prog w) A c' R s') (fun e s' => R (.error e) s') s := by
  have Wk := (Walks.listRev (prog := prog) (w := w) (A := A.in1) hh it l hne items).toS
  have nf : S ∉ [it, l] := by
    intro hm
    rcases List.mem_cons.mp hm with e | e
    · exact hSi e
    · exact hSl (List.mem_singleton.mp e)
  have tyI : s.TypeIs (.ref it) "list_reverseiterator" := Heap.IsRevIter.typeIs hit
  have dif : Builtin.List.listSameRef (.ref S) (.ref it) = false := by simp [Builtin.List.listSameRef, hSi]
  unfold Builtin.List.listExtendWith
  refine wpAny_bind (wpAny_typeOf tyI ?_)
  rw [if_neg (show ¬ ((Builtin.List.listSameRef (.ref S) (.ref it) || Value.type "list_reverseiterator" == Value.type "list" || Value.type "list_reverseiterator" == Value.type "tuple") = true) from by rw [dif]; decide)]
  refine wpAny_bind (wpAny_pyIter_revIter hit (wpAny_bind (wpAny_holding ?_)))
  unfold Builtin.List.listLengthHint
  refine wpAny_bind (wpAny_specialOf tyI nolen_lri (show wpAny _ A.in1 (specialOf (Value.ref it) (Str.ofString "__length_hint__") >>= _) _ _ _ from wpAny_bind (wpAny_specialOf tyI hint_lri ?_)))
  generalize hid : ("list_reverseiterator.__length_hint__" : String) = id1
  wp_delta
  rw [show splitId id1 = some ("list_reverseiterator", "__length_hint__") from by rw [← hid]; decide +kernel]
  subst hid
  refine wpAny_bind (wpAny_isInstance (b := true) tyI (by rw [isSubtype_type]; kernel_rfl) (wpAny_pure ?_))
  rw [if_neg (by decide)]
  have z0 : ((items.size : Nat) : Int) - 1 - ((0 : Nat) : Int) = (items.size : Int) - 1 := by omega
  refine wpAny_pure ⟨plainId_quiet F.plain_extend_loop _, codeAny_extend_loopS Wk hn _ nf _ items.size 0 _ _ _ rfl (Nat.zero_le _) ⟨Nat.zero_le _, (by rw [z0]; exact hit), hl⟩ hS (ItemsOf.nil _) fun s2 acc c mv k1 k2 => ?_⟩
  rw [Moved.eq_with mv]
  refine hR s2.heap s2.toks acc c (fun b ob nS nI e => mv.heap b ob (fun hm => ?_) e) k1 k2
  rcases List.mem_cons.mp hm with e' | hm
  · exact nS e'
  · exact nI (List.mem_singleton.mp hm)
theorem call_list_rev {it l : Addr} {items : Array Value} {Q : Value → Shared → Prop} (hh : A.handled = none) (hit : s.heap.IsRevIter it l ((items.size : Int) - 1)) (hl : s.heap.IsList l items) (hne : l ≠ it) (hn : items.size ≤ sizeLine)
    (hQ : ∀ h' tk acc c, (∀ b o, b ≠ it → s.heap.get? b = some o → h'.get? b = some o) → h'.get? s.heap.objs.size = some { cls := .type "list", dict := none, data := .seq acc c, slots := #[] } →
      ItemsOf (fun i v => items[items.size - 1 - i]? = some v) acc items.size → Q (.ref s.heap.objs.size) { s with heap := h', toks := tk }) :
    wpAny (model prog w) A (call (.type "list") [.ref it]) Q E s := by
  obtain ⟨oi, hoi, _⟩ := id hit
  obtain ⟨ol, hol, _⟩ := id hl
  refine callType_codes (Q₁ := fun obj s₁ => obj = .ref s.heap.objs.size ∧ s₁ = { s with heap := s.heap.push { cls := .type "list", data := .seq #[] } }) PySem.F.called_list (PySem.F.typeCall_list_1 _) PySem.F.entry_list_init (code_list_new _ ⟨rfl, rfl⟩) fun obj s₁ h₁ => ?_
  obtain ⟨rfl, rfl⟩ := h₁
  have g0 : (s.heap.push { cls := .type "list", data := .seq #[] }).get? s.heap.objs.size = some { cls := .type "list", data := .seq #[] } := Heap.get?_push_size _ rfl
  refine ⟨⟨_, g0, rfl⟩, PySem.F.args_list_init_2 _ _, ?_⟩
  show wpAny _ _ (do let old ← Builtin.List.listItems (.ref s.heap.objs.size); Builtin.List.listUpdate (.ref s.heap.objs.size) (fun _ => #[]); letGo old.toList.reverse; Builtin.List.listExtendWith (.ref s.heap.objs.size) (.ref it) .none) _ _ _
  refine wpAny_bind ?_
  unfold Builtin.List.listItems
  refine wpAny_bind (wpAny_seqItems g0 rfl (wpAny_pure ?_))
  show wpAny _ _ (updateSeq s.heap.objs.size (fun _ => #[]) >>= fun _ => letGo (#[] : Array Value).toList.reverse >>= fun _ => Builtin.List.listExtendWith (.ref s.heap.objs.size) (.ref it) .none) _ _ _
  refine wpAny_bind (wpAny_updateSeq g0 rfl ?_)
  have g1 := Heap.get?_update_self (Obj.mapSeq (fun _ => (#[] : Array Value))) g0 rfl
  have oth : ∀ b o, s.heap.get? b = some o → ((s.heap.push { cls := .type "list", data := .seq #[] }).update s.heap.objs.size (Obj.mapSeq (fun _ => (#[] : Array Value)))).get? b = some o := fun b o e =>
    (Heap.get?_update_other _ _ (Nat.ne_of_gt (Heap.lt_size e))).trans (Heap.get?_push_of_some _ e)
  refine wpAny_bind (wpAny_letGo ?_)
  refine ext_rev (A := A.in1) hh (hit.at fun o e => oth _ o e) (let ⟨o, h1, h2⟩ := hl; ⟨o, oth _ _ h1, h2⟩) hne hn .none _ g1 (Nat.ne_of_gt (Heap.lt_size hoi)) (Nat.ne_of_gt (Heap.lt_size hol)) fun h' tk acc c hk hS' hacc => ?_
  exact ⟨rfl, hQ h' tk acc c (fun b o hb e => hk b o (Nat.ne_of_lt (Heap.lt_size e)) hb (oth b o e)) hS' hacc⟩
end
section
open L2
variable {X : Cx}
def tLstRev (K : PySem.W.Frag) (te : TE) : TE := fun σ H Q => te σ H fun v H1 => ∃ (a : Addr) (xs : List V), v = .ref a ∧ SqL K H1 a xs ∧ ∀ q, H1 q = none → Q (.ref q) (upd H1 q (.lst xs.reverse))
theorem pe_listrev {e : Expr} {te : TE} {p p2 pos pos2 : Pos} (hc : X.calm = true) (hg : Gl X "list") (hm : X.mg "list" = none) (hg2 : Gl X "reversed") (hm2 : X.mg "reversed" = none) (he : PE X e te)
    (na : starEach [e] X.env = (false, eval e X.env) :: starEach [] X.env := by rfl)
    (nb : starEach [.Call (.Name "reversed" p2) [e] [] pos2] X.env = (false, eval (.Call (.Name "reversed" p2) [e] [] pos2) X.env) :: starEach [] X.env := by rfl) :
    PE X (.Call (.Name "list" p) [.Call (.Name "reversed" p2) [e] [] pos2] [] pos) (tLstRev X.K te) := by
  refine ⟨fun pins s σ H Q I h => Call_ (ld_blt I hg hm boot_list (PyProof.Rows.callWith_type1 (args_cons (Call_ (ld_blt I hg2 hm2 PyProof.Rows.boot_reversed (PyProof.Rows.callWith_type1 (args_cons (thn (he.run pins s σ H _ I h) fun u s1 ⟨v, H1, I1, r1, q1⟩ => args_nil ?_) na) na rfl))) nb) nb rfl))⟩
  obtain ⟨a, xs, rfl, hq, q⟩ := q1
  obtain rfl : u = Value.ref a := r1
  obtain ⟨its, rv, p', hz⟩ := I1.list hq
  have hl := p'.isList
  obtain ⟨ol, hol, _⟩ := id hl
  refine call_reversed_list hl (args_nil ?_)
  have J : Inv X pins σ H1 { s1 with heap := s1.heap.push (revObj a ((its.toArray.size : Int) - 1)) } := I1.kept (t' := s1.toks) fun b o e => Heap.get?_push_of_some _ e
  have fp : FpOk X pins H1 s1.heap.objs.size := I1.fpOk (H' := H1) (Nat.le_refl _) (I1.hok.fresh (Nat.le_refl _))
  have big : its.toArray.size ≤ sizeLine := by rw [List.size_toArray, ← rv.length]; exact hz
  refine call_list_rev (s := { s1 with heap := s1.heap.push (revObj a ((its.toArray.size : Int) - 1)) }) (I1.ok.hd hc) ⟨_, Heap.get?_push_size _ rfl, rfl, rfl⟩ (hl.push _) (Nat.ne_of_lt (Heap.lt_size hol)) big fun h' tk acc c' hk e' hi => ?_
  refine ⟨.ref _, _, J.turnedNew (t' := tk) (ch := [s1.heap.objs.size]) (T := (s1.heap.push (revObj a ((its.toArray.size : Int) - 1))).objs.size) (ob := .lst xs.reverse) (fun b o hb e => hk b o (fun z => hb (by simp [z])) e) (fun b hb => by
      rw [List.mem_singleton.mp hb]; exact fp) (Nat.le_refl _) ⟨by rw [List.length_reverse]; exact hz, acc.toList, c', vals_rev rv hi, ?_⟩, rfl, q _ (J.hok.fresh (Nat.le_refl _))⟩
  rw [Array.toArray_toList]
  exact e'
end
end DLR
namespace DL
open PySem PySem.Spec L2
section
variable {X : Cx} {C : Ct} {W : WX} {a b e : Expr} {f g : Mo D}
def mListRev (f : Mo D) : Mo (List D) := bnd f fun d => lft ((lstOf d).map List.reverse)
theorem eo_listrev (ha : EvD X C W a f) (hp : ∀ te, PE X a te → PE X e (DLR.tLstRev X.K te)) : EvO X C W e (mListRev f) := by
  obtain ⟨te, p1, s1⟩ := ha
  refine ⟨_, hp _ p1, fun F H σ ε Q R q => ?_⟩
  refine s1 F H σ ε _ R (q.bind.imp (fun d e q1 v F1 H1 R1 st1 r1 => ?_) fun x e z => z)
  cases d with
  | lst ds =>
    obtain ⟨p, xs, rfl, h, r⟩ := rep_seqs r1
    exact ⟨p, xs, rfl, Same.seq R1.fh h, fun l hl => ok_new R R1 st1 r.reverse q1 hl⟩
  | rdl ds =>
    obtain ⟨p, xs, rfl, h, r⟩ := rep_rdl r1
    exact ⟨p, xs, rfl, Same.seq R1.fh h, fun l hl => ok_new R R1 st1 r.reverse q1 hl⟩
  | _ => exact q1.elim
/-! an item of a list of one's own, the list left as it is -/
def mItemN (i : Nat) (g : Mo D) : Mo D := fun ε0 => match (ε0[i]?).bind Ent.get with
  | none => none
  | some _ => bnd g (fun k ε => match (ε[i]?).bind Ent.get with
    | none => none
    | some ps => match k with
      | .int j => (match atI ps j with
        | some d => some (.ok d ε)
        | none => none)
      | _ => none) ε0
theorem ev_itemN (i : Nat) (hm : PlainIx b) (hb : EvD X C W b g) (hp : ∀ (ta : TE) tb, PE X b tb → PE X e (tOp (rIx X.K) (tVar i) tb)) : EvD X C W e (mItemN i g) := by
  obtain ⟨tb, p2, s2⟩ := hb
  refine ⟨_, hp tb _ p2, fun F H σ ε Q R q => ?_⟩
  unfold mItemN at q
  cases h0 : ε[i]? with
  | none => rw [h0] at q; exact q.elim
  | some e0 =>
    rw [h0] at q
    simp only [Option.bind_some] at q
    cases h1 : e0.get with
    | none => rw [h1] at q; exact q.elim
    | some p0 =>
      rw [h1] at q
      obtain ⟨l, us0, a0, b0, _⟩ := R.at h0 h1
      refine ⟨.ref l, a0, ?_⟩
      refine s2 F H σ ε _ R (q.bind.imp (fun d e q1 v F1 H1 R1 st1 r1 => ?_) fun x e z => z)
      cases h2 : e[i]? with
      | none => rw [h2] at q1; exact q1.elim
      | some e1 =>
        rw [h2] at q1
        simp only [Option.bind_some] at q1
        cases h3 : e1.get with
        | none => rw [h3] at q1; exact q1.elim
        | some ps =>
          rw [h3] at q1
          cases d with
          | int j =>
            dsimp only at q1
            cases h4 : atI ps j with
            | none => rw [h4] at q1; exact q1.elim
            | some y =>
              rw [h4] at q1
              obtain ⟨l2, us, a, b, c, d', hm⟩ := R1.at h2 h3
              rw [a0] at a
              cases a
              obtain ⟨w, g1, g2⟩ := atI_rep d' h4
              exact .inl ⟨l, us, j, w, rfl, rep_int r1, .inl (.inl b), g1, q1 w F1 H1 R1 st1 g2⟩
          | _ => exact q1.elim
/-! xs[i] = v of a list of one's own -/
def mPut (i : Nat) (fv fk : Mo D) : MoS := mThen fv fun d ε1 => match (ε1[i]?).bind Ent.get with
  | none => none
  | some _ => mThen fk (fun k ε => match ε[i]? with
    | none => none
    | some e => match e.get with
      | none => none
      | some ps => match k with
        | .int j => (match ixN ps.length j with
          | some n => some (.nx (ε.set i (e.put (ps.set n d))))
          | none => none)
        | _ => none) ε1
theorem st_put {i : Nat} {s : Stmt} {v k : Expr} (hp : ∀ te tk, PE X v te → PE X k tk → PS X s (tAsg te (L2.gSub (tVar i) tk rSetL))) (hv : EvD X C W v f) (hk : EvD X C W k g) : StD X C W s (mPut i f g) := by
  obtain ⟨te, p1, s1⟩ := hv
  obtain ⟨tk, p2, s2⟩ := hk
  refine ⟨_, hp _ _ p1 p2, fun F H σ ε D R q => ?_⟩
  refine s1 F H σ ε _ R ((then_good q).imp (fun d e q1 v F1 H1 R1 st1 r1 => ?_) fun x e z => z)
  cases h0 : e[i]? with
  | none => rw [h0] at q1; exact q1.elim
  | some e0 =>
    rw [h0] at q1
    simp only [Option.bind_some] at q1
    cases h1 : e0.get with
    | none => rw [h1] at q1; exact q1.elim
    | some p0 =>
      rw [h1] at q1
      obtain ⟨l, us0, a0, b0, _⟩ := R1.at h0 h1
      refine ⟨.ref l, a0, ?_⟩
      refine s2 F1 H1 σ e _ R1 ((then_good (q1.mono st1.ff)).imp (fun kd e2 q2 w F2 H2 R2 st2 r2 => ?_) fun x e z => z)
      cases h2 : e2[i]? with
      | none => rw [h2] at q2; exact q2.elim
      | some e1 =>
        rw [h2] at q2
        dsimp only at q2
        cases h3 : e1.get with
        | none => rw [h3] at q2; exact q2.elim
        | some ps =>
          rw [h3] at q2
          cases kd with
          | int j =>
            dsimp only at q2
            cases h4 : ixN ps.length j with
            | none => rw [h4] at q2; exact q2.elim
            | some n =>
              rw [h4] at q2
              obtain ⟨l2, us, a, b, c, d', hm⟩ := R2.at h2 h3
              rw [a0] at a
              cases a
              obtain ⟨R3, st3⟩ := R2.callQ (F' := F2) (H' := upd H2 l (.lst (us.set n v))) (ps' := ps.set n d) h2 h3 a0 (Same.refl F2) (fun x o q => by
                rw [upd_ne (fun z => by rw [z, c] at q; cases q)]; exact R2.fh x o q) (fun x o q n => by rw [upd_ne n]; exact q) (fun _ _ => rfl) upd_same (d'.set (r1.mono st2.ff) n)
              exact ⟨l, us, j, n, rfl, rep_int r2, b, by rw [d'.length]; exact h4, q2 F2 _ σ R3 st2.ff⟩
          | _ => exact q2.elim
/-! return of a name that holds a list of one's own, as one's own -/
def mRetOwn (i : Nat) : MoS := fun ε => match ε[i]? with
  | some (.own ds) => some (.ro ds ε)
  | _ => none
theorem st_retOwn {e : Expr} {pos : Pos} (i : Nat) (hp : PE X e (tVar i)) : StD X C W (.Return (some e) pos) (mRetOwn i) := by
  refine ⟨_, ps_ret hp, fun F H σ ε D R q => ?_⟩
  unfold mRetOwn at q
  cases h0 : ε[i]? with
  | none => rw [h0] at q; exact q.elim
  | some e0 =>
    rw [h0] at q
    cases e0 with
    | own ds =>
      obtain ⟨l, us, a, b, c, d, g⟩ := R.ent i _ h0
      exact ⟨.ref l, a, q l us F H σ R (Same.refl F) b c d g⟩
    | _ => exact q.elim
def mRetN : MoS := fun ε => some (.rt .non ε)
theorem st_retN {pos : Pos} : StD X C W (.Return none pos) mRetN := ⟨_, ps_retN, fun F H σ ε D R q => q .non F H σ R (Same.refl F) .non⟩
/-! x += e of ints -/
def mAug (g : D → D → Option D) (i : Nat) (f : Mo D) : MoS := fun ε => match ε[i]? with
  | some (.dat x) => mThen f (fun y ε' => match g x y with
    | some z => some (.nx (ε'.set i (.dat z)))
    | none => none) ε
  | _ => none
theorem st_augAdd {i : Nat} {s : Stmt} {v : Expr} (hp : ∀ te, PE X v te → PS X s (tAug i te (ipI fun a b => a + b))) (hv : EvD X C W v f) : StD X C W s (mAug gAdd i f) := by
  obtain ⟨te, p1, s1⟩ := hv
  refine ⟨_, hp _ p1, fun F H σ ε D R q => ?_⟩
  unfold mAug at q
  cases h0 : ε[i]? with
  | none => rw [h0] at q; exact q.elim
  | some e0 =>
    rw [h0] at q
    cases e0 with
    | dat x =>
      obtain ⟨xv, a, rx⟩ := R.ent i _ h0
      refine ⟨xv, a, ?_⟩
      refine s1 F H σ ε _ R ((then_good q).imp (fun d e q1 v F1 H1 R1 st1 r1 => ?_) fun x e z => z)
      cases hg : gAdd x d with
      | none => rw [hg] at q1; exact q1.elim
      | some z =>
        rw [hg] at q1
        obtain ⟨i1, j1, rfl, rfl, _, rfl⟩ := gI_of hg
        exact ⟨i1, j1, rep_int rx, rep_int r1, q1 F1 H1 _ (R1.set i (.int _)) st1.ff⟩
    | _ => exact q.elim
/-! the truth of a list, a tuple -/
def gTruth : D → Option Bool
  | .lst ds => some (!ds.isEmpty)
  | .rdl ds => some (!ds.isEmpty)
  | .tup ds => some (!ds.isEmpty)
  | _ => none
theorem empt {K : PySem.W.Frag} {F : Hp} {xs : List V} {ds : List D} (r : RepL K F xs ds) : xs.isEmpty = ds.isEmpty := by
  cases r <;> rfl
/-! sequences by what they are -/
def gMaxT (d : D) : Option D := match d with
  | .tup ds => (intsOf ds).bind fun ns => if 0 < ns.length then some (.int (maxI ns)) else none
  | _ => none
def gMinT (d : D) : Option D := match d with
  | .tup ds => (intsOf ds).bind fun ns => if 0 < ns.length then some (.int (minI ns)) else none
  | _ => none
theorem ei_str {tg : Expr} (he : EvD X C W e f) : EiD X C W tg e (bnd f fun d => lft (match d with
    | .str x => some (x.cps.toList.map fun c => D.str ⟨#[c]⟩)
    | _ => none)) := by
  obtain ⟨te, p1, s1⟩ := he
  refine ⟨_, pi_str p1, fun F H σ ε R R0 q => ?_⟩
  refine s1 F H σ ε _ R0 (q.bind.imp (fun d e q1 v F1 H1 R1 st1 r1 => ?_) fun x e z => z)
  cases d with
  | str x =>
    refine ⟨x, rep_str r1, q1 _ F1 H1 R1 st1 ⟨fun F' H' i _ _ hi => ?_, fun F' H' i y H2 _ s2 hi ⟨e, c, h1, h2⟩ => ?_, fun F' H' i _ _ hi => ?_⟩⟩
    · rw [List.length_map] at hi
      show i < x.cps.size
      simpa using hi
    · subst e h2
      refine ⟨.str ⟨#[c]⟩, F', ?_, Ste.refl s2, .str _⟩
      rw [List.getElem?_map, Array.getElem?_toList, h1]; rfl
    · rw [List.length_map] at hi
      show x.cps.size ≤ i
      simpa using hi
  | _ => exact q1.elim
end
end DL

set_option Elab.async false
set_option linter.all false
set_option maxRecDepth 100000
/-! max and min of a tuple of ints -/
namespace DLM
open PySem PySem.W PyProof.Rows L2
section
variable {prog : Program} {w : World} {A : Around} {E : Value → Shared → Prop} {s : Shared} {t : Addr} {its : List Value} {ns : List Int} {Q : Value → Shared → Prop}
theorem maxT_raw (hh : A.handled = none) (ht : s.heap.IsTuple t its.toArray) (hi : IntsAre its ns) (hne : 0 < ns.length)
    (q : ∀ h' tk M u, (∀ b o, s.heap.get? b = some o → h'.get? b = some o) → M ∈ ns → (∀ a, a ∈ ns → a ≤ M) → Q (.int M u) { s with heap := h', toks := tk }) : wpAny (model prog w) A (call (.builtin "max") [.ref t]) Q E s := by
  obtain ⟨xs, e⟩ := hi.allInts.items
  have en : numsOf (intItems xs).toList = ns := by rw [← e]; exact hi.numsOf
  rw [nums_intItems] at en
  subst en
  rw [e] at ht
  have pos : 0 < xs.size := by simpa using hne
  obtain ⟨ot, hot, _⟩ := id ht
  refine call_max_walk (wpAny_pyIter_tuple ht ?_)
  refine ⟨_, [_, t], [_], _, _, _, _, rfl, Walks.tuple (A := A.in1) hh _ t (Nat.ne_of_lt (Heap.lt_size hot)) (intItems xs), ⟨⟨_, Heap.get?_push_size _ rfl, rfl, rfl⟩, (let ⟨o, a, b⟩ := ht; ⟨o, Heap.get?_push_of_some _ a, b⟩)⟩, fun c hc => ?_, by simpa [intItems] using pos, CmpOf.ints_gt (numAt xs) (fun _ _ => intItems_at), fun v h' tk hP hk => ?_⟩
  · rw [Heap.size_push]
    rcases List.mem_cons.mp hc with z | z
    · rw [z]; exact Nat.lt_succ_self _
    · rw [List.mem_singleton.mp z]; exact Nat.lt_succ_of_lt (Heap.lt_size hot)
  · have hv : (intItems xs)[argBest (fun i j => decide (numAt xs i > numAt xs j)) (xs.size - 1)]? = some v := by simpa [intItems] using hP
    obtain ⟨u, rfl⟩ := intItems_at hv
    obtain ⟨b1, b2⟩ := argBest_gt (numAt xs) (xs.size - 1)
    refine q h' tk _ u (fun b o z => hk b o (fun hm => ?_) (Heap.get?_push_of_some _ z)) ?_ fun a ha => ?_
    · rw [List.mem_singleton.mp hm] at z; exact absurd (Heap.lt_size z) (Nat.lt_irrefl _)
    · rw [numAt_eq]; exact PySem.getD_mem (by rw [List.length_map, Array.length_toList]; omega)
    · obtain ⟨j, hj, rfl⟩ := mem_getD ha
      rw [List.length_map, Array.length_toList] at hj
      rw [← numAt_eq]; exact b2 j (by omega)
theorem minT_raw (hh : A.handled = none) (ht : s.heap.IsTuple t its.toArray) (hi : IntsAre its ns) (hne : 0 < ns.length)
    (q : ∀ h' tk M u, (∀ b o, s.heap.get? b = some o → h'.get? b = some o) → M ∈ ns → (∀ a, a ∈ ns → M ≤ a) → Q (.int M u) { s with heap := h', toks := tk }) : wpAny (model prog w) A (call (.builtin "min") [.ref t]) Q E s := by
  obtain ⟨xs, e⟩ := hi.allInts.items
  have en : numsOf (intItems xs).toList = ns := by rw [← e]; exact hi.numsOf
  rw [nums_intItems] at en
  subst en
  rw [e] at ht
  have pos : 0 < xs.size := by simpa using hne
  obtain ⟨ot, hot, _⟩ := id ht
  refine call_min_walk (wpAny_pyIter_tuple ht ?_)
  refine ⟨_, [_, t], [_], _, _, _, _, rfl, Walks.tuple (A := A.in1) hh _ t (Nat.ne_of_lt (Heap.lt_size hot)) (intItems xs), ⟨⟨_, Heap.get?_push_size _ rfl, rfl, rfl⟩, (let ⟨o, a, b⟩ := ht; ⟨o, Heap.get?_push_of_some _ a, b⟩)⟩, fun c hc => ?_, by simpa [intItems] using pos, CmpOf.ints_lt (numAt xs) (fun _ _ => intItems_at), fun v h' tk hP hk => ?_⟩
  · rw [Heap.size_push]
    rcases List.mem_cons.mp hc with z | z
    · rw [z]; exact Nat.lt_succ_self _
    · rw [List.mem_singleton.mp z]; exact Nat.lt_succ_of_lt (Heap.lt_size hot)
  · have hv : (intItems xs)[argBest (fun i j => decide (numAt xs i < numAt xs j)) (xs.size - 1)]? = some v := by simpa [intItems] using hP
    obtain ⟨u, rfl⟩ := intItems_at hv
    obtain ⟨b1, b2⟩ := argBest_lt (numAt xs) (xs.size - 1)
    refine q h' tk _ u (fun b o z => hk b o (fun hm => ?_) (Heap.get?_push_of_some _ z)) ?_ fun a ha => ?_
    · rw [List.mem_singleton.mp hm] at z; exact absurd (Heap.lt_size z) (Nat.lt_irrefl _)
    · rw [numAt_eq]; exact PySem.getD_mem (by rw [List.length_map, Array.length_toList]; omega)
    · obtain ⟨j, hj, rfl⟩ := mem_getD ha
      rw [List.length_map, Array.length_toList] at hj
      rw [← numAt_eq]; exact b2 j (by omega)
end
section
variable {X : Cx}
def rMaxT (K : PySem.W.Frag) : List V → Hp → VK → Prop := fun vs H Q => ∃ (a : Addr) (ns : List Int), vs = [V.ref a] ∧ SqT K H a (ns.map V.int) ∧ 0 < ns.length ∧ ∀ m, m ∈ ns → (∀ y, y ∈ ns → y ≤ m) → Q (.int m) H
def rMinT (K : PySem.W.Frag) : List V → Hp → VK → Prop := fun vs H Q => ∃ (a : Addr) (ns : List Int), vs = [V.ref a] ∧ SqT K H a (ns.map V.int) ∧ 0 < ns.length ∧ ∀ m, m ∈ ns → (∀ y, y ∈ ns → m ≤ y) → Q (.int m) H
theorem cr_maxT (hc : X.calm = true) : CallR X (.builtin "max") (rMaxT X.K) := by
  intro pins s σ H vs us Q I r ⟨a, ns, e, hs, hne, q⟩
  subst e
  obtain ⟨its, rv, ht, _⟩ := I.tuple hs
  rw [Vals.ref1 r]
  exact maxT_raw (I.ok.hd hc) ht rv.ints hne fun h' tk m u hk h1 h2 => ⟨.int _, H, I.kept hk, ⟨_, rfl⟩, q m h1 h2⟩
theorem cr_minT (hc : X.calm = true) : CallR X (.builtin "min") (rMinT X.K) := by
  intro pins s σ H vs us Q I r ⟨a, ns, e, hs, hne, q⟩
  subst e
  obtain ⟨its, rv, ht, _⟩ := I.tuple hs
  rw [Vals.ref1 r]
  exact minT_raw (I.ok.hd hc) ht rv.ints hne fun h' tk m u hk h1 h2 => ⟨.int _, H, I.kept hk, ⟨_, rfl⟩, q m h1 h2⟩
end
end DLM
namespace DL
open PySem PySem.Spec L2 DLM
section
variable {K : PySem.W.Frag}
theorem vc_maxT : VCall K (rMaxT K) (gOne gMaxT) := by
  intro F H xs ds c Q s r hg q
  obtain ⟨x, d, rfl, rfl, rd, hd⟩ := one_of r hg
  unfold gMaxT at hd
  split at hd
  · simp only [Option.bind_eq_some_iff] at hd
    obtain ⟨ns, e1, e2⟩ := hd
    split at e2
    · rename_i h0
      cases e2
      obtain ⟨a, xs, rfl, h, r2⟩ := rep_tup rd
      have := ints_eq e1
      subst this
      rw [RepL.ints r2] at h
      refine ⟨a, ns, rfl, seqT s h, h0, fun m h1 h2 => ?_⟩
      have sp := maxI_spec ns (by intro z; rw [z] at h0; simp at h0)
      have e : m = maxI ns := Int.le_antisymm (sp.2 m h1) (h2 _ sp.1)
      subst e
      exact q _ F H (Ste.refl s) (.int _)
    · cases e2
  · cases hd
theorem vc_minT : VCall K (rMinT K) (gOne gMinT) := by
  intro F H xs ds c Q s r hg q
  obtain ⟨x, d, rfl, rfl, rd, hd⟩ := one_of r hg
  unfold gMinT at hd
  split at hd
  · simp only [Option.bind_eq_some_iff] at hd
    obtain ⟨ns, e1, e2⟩ := hd
    split at e2
    · rename_i h0
      cases e2
      obtain ⟨a, xs, rfl, h, r2⟩ := rep_tup rd
      have := ints_eq e1
      subst this
      rw [RepL.ints r2] at h
      refine ⟨a, ns, rfl, seqT s h, h0, fun m h1 h2 => ?_⟩
      have sp := minI_spec ns (by intro z; rw [z] at h0; simp at h0)
      have e : m = minI ns := Int.le_antisymm (h2 _ sp.1) (sp.2 m h1)
      subst e
      exact q _ F H (Ste.refl s) (.int _)
    · cases e2
  · cases hd
end
end DL

set_option Elab.async false
set_option linter.all false
set_option maxRecDepth 100000
namespace DL
open PySem PySem.Spec L2
section
variable {X : Cx} {C : Ct} {W : WX} {a b e : Expr} {f g : Mo D} {pos : Pos}
/-! ### a dict's display, whose contents are not told -/
inductive RepPs (K : PySem.W.Frag) (F : Hp) : List (V × V) → List (D × D) → Prop
  | nil : RepPs K F [] []
  | cons {x y : V} {d e : D} {ps : List (V × V)} {qs : List (D × D)} : RepD K F x d → RepD K F y e → RepPs K F ps qs → RepPs K F ((x, y) :: ps) ((d, e) :: qs)
def EpD (X : Cx) (C : Ct) (W : WX) (pos : Pos) (keys : List (Option Expr)) (vals : List Expr) (f : Mo (List (D × D))) : Prop := ∃ trs, PPs X pos keys vals trs ∧ ∀ F H σ ε Q, Rep X.K C F H σ ε →
  Good (f ε) (fun qs ε' => ∀ ps F' H', Rep X.K C F' H' σ ε' → Stp σ ε ε' F H F' H' → RepPs X.K F' ps qs → Q ps H') (ExP X.K C W F H σ ε) → tPairs trs σ H Q
theorem ep_nil : EpD X C W pos [] [] (pur []) := ⟨_, pps_nil, fun F H σ ε Q R q => q [] F H R Stp.refl .nil⟩
theorem RepPs.mono {K : PySem.W.Frag} {F F' : Hp} (s : Same F F') : ∀ {ps : List (V × V)} {qs : List (D × D)}, RepPs K F ps qs → RepPs K F' ps qs
  | _, _, .nil => .nil
  | _, _, .cons h1 h2 r => .cons (h1.mono s) (h2.mono s) (RepPs.mono s r)
theorem ep_cons {k v : Expr} {ks : List (Option Expr)} {vs : List Expr} {h : Mo (List (D × D))} (hk : EvD X C W k f) (hv : EvD X C W v g) (hr : EpD X C W pos ks vs h) : EpD X C W pos (some k :: ks) (v :: vs) (bnd f fun d => bnd g fun e => bnd h fun r => pur ((d, e) :: r)) := by
  obtain ⟨tk, p1, s1⟩ := hk
  obtain ⟨tv, p2, s2⟩ := hv
  obtain ⟨tr, p3, s3⟩ := hr
  refine ⟨_, pps_cons p1 p2 p3, fun F H σ ε Q R q => ?_⟩
  refine s1 F H σ ε _ R (q.bind.imp (fun d e q1 v F1 H1 R1 st1 r1 => ?_) fun x e z => z)
  refine s2 F1 H1 σ e _ R1 (q1.bind.imp (fun d2 e2 q2 v2 F2 H2 R2 st2 r2 => ?_) fun x e z => z.imp st1)
  refine s3 F2 H2 σ e2 _ R2 (q2.bind.imp (fun d3 e3 q3 ps F3 H3 R3 st3 r3 => ?_) fun x e z => z.imp (st1.trans st2))
  exact q3 ((v, v2) :: ps) F3 H3 R3 ((st1.trans st2).trans st3) (.cons ((r1.mono st2.ff).mono st3.ff) (r2.mono st3.ff) r3)
/-- int keys -/
def intKeys : List (D × D) → Bool
  | [] => true
  | (.int _, _) :: r => intKeys r
  | _ => false
def mDct (f : Mo (List (D × D))) : Mo D := bnd f fun qs => lft (if intKeys qs = true ∧ qs.length ≤ 15 then some .dct else none)
theorem keys_of {K : PySem.W.Frag} {F : Hp} : ∀ {ps : List (V × V)} {qs : List (D × D)}, RepPs K F ps qs → intKeys qs = true → ∃ kvs : List (Key × V), ps = kvs.map (fun kv => (kV kv.1, kv.2)) ∧ kvs.length = qs.length
  | _, _, .nil, _ => ⟨[], rfl, rfl⟩
  | _, (d, e) :: qs, .cons h1 h2 r, hk => by
    cases d with
    | int i =>
      obtain ⟨kvs, e1, e2⟩ := keys_of r hk
      rename_i x y ps
      refine ⟨(.inl i, y) :: kvs, ?_, by simp [e2]⟩
      rw [e1, rep_int h1]; rfl
    | _ => cases hk
theorem ev_dct {keys : List (Option Expr)} {vals : List Expr} {h : Mo (List (D × D))} (hp : EpD X C W pos keys vals h) (hall : keys.all (·.isSome) = true) (hl : keys.length = vals.length) (h0 : keys ≠ [])
    (hd : ∀ trs, PPs X pos keys vals trs → PE X e (tDisp trs)) : EvD X C W e (mDct h) := by
  obtain ⟨trs, p, s⟩ := hp
  refine ⟨_, hd _ p, fun F H σ ε Q R q => ?_⟩
  intro p0 hp0
  obtain ⟨n1, n2, n3⟩ := R.newApart hp0
  have R0 := R.loose (.dK []) hp0
  have st0 : Stp σ ε ε F H F (upd H p0 (.dK [])) := (Ste.loose R.fh hp0).stp
  refine s F _ σ ε _ R0 (q.bind.imp (fun qs e q1 ps F1 H1 R1 st1 r1 => ?_) fun x e z => z.imp st0)
  unfold lft at q1
  by_cases hc : intKeys qs = true ∧ qs.length ≤ 15
  · rw [if_pos hc] at q1
    obtain ⟨kvs, e1, e2⟩ := keys_of r1 hc.1
    have h1 : H1 p0 = some (.dK []) := st1.hh p0 _ upd_same n3
    have f1 : F1 p0 = none := (st1.old p0 (by rw [upd_same]; exact fun z => by cases z) n3).trans n1
    refine ⟨h1, kvs, e1, by rw [e2]; exact hc.2, ?_⟩
    have ap := st1.ap p0 n3
    have R2 := (R1.poke (o := .dK (mergeK [] kvs)) f1 n2 ap).freeze (l := p0) (o := .dK (mergeK [] kvs)) upd_same f1 n2 ap
    have st2 := st0.trans st1
    have ne : ∀ b, H b ≠ none → b ≠ p0 := fun b hb z => hb (by rw [z]; exact hp0)
    exact q1 (.ref p0) _ _ R2 ⟨st2.ff.trans (same_upd f1), fun b o hb p => by
        rw [upd_ne (ne b (by rw [hb]; exact fun z => by cases z))]; exact st2.hh b o hb p, fun b hb p => by
        rw [upd_ne (ne b hb)]; exact st2.old b hb p, st2.ap, fun b hb => by
        rw [upd_ne (ne b hb)]; exact st2.tr b hb⟩ (.dct upd_same)
  · rw [if_neg hc] at q1; exact q1.elim
end
end DL
namespace DL
open PySem PySem.Spec L2
def runO (n : Nat) (g : MoS) (ds : List D) : Option (List D) := match g (env0 n ds) with
  | some (.ro es _) => some es
  | _ => none
theorem runO_of {n : Nat} {g : MoS} {ds es : List D} (h : runO n g ds = some es) : ∃ ε, g (env0 n ds) = some (.ro es ε) := by
  unfold runO at h
  split at h
  · cases h; exact ⟨_, by assumption⟩
  · cases h
def runQ (n : Nat) (g : MoS) (ps ds : List D) : Option (Ans × List D) := outQ (g (envQ n ps ds))
def strOf : D → Option (List D)
  | .str x => some (x.cps.toList.map fun c => D.str ⟨#[c]⟩)
  | _ => none
def mTruth (f : Mo D) : Mo Bool := bnd f fun d => lft (gTruth d)
section
variable {X : Cx} {C : Ct} {W : WX} {e : Expr} {f : Mo D}
theorem te_seq (h : EvD X C W e f) (he : ∀ whole, isTrue e X.env whole = (do let v ← whole; standAt e.pos; holding [v] (truthy v)) := by intro _; rfl) : TeD X C W e (mTruth f) := by
  obtain ⟨te, p1, s1⟩ := h
  refine ⟨_, pt_truth p1 he, fun F H σ ε Q R q => ?_⟩
  refine s1 F H σ ε _ R (q.bind.imp (fun d e q1 v F1 H1 R1 st1 r1 => ?_) fun x e z => z)
  unfold lft at q1
  cases hk : gTruth d with
  | none => rw [hk] at q1; exact q1.elim
  | some k =>
    rw [hk] at q1
    refine ⟨k, ?_, q1 F1 H1 R1 st1⟩
    unfold gTruth at hk
    split at hk
    · cases hk
      obtain ⟨a, xs, rfl, h, r⟩ := rep_seqs r1
      exact .inl ⟨xs, Same.seq R1.fh h, by rw [empt r]⟩
    · cases hk
      obtain ⟨a, xs, rfl, h, r⟩ := rep_rdl r1
      exact .inl ⟨xs, Same.seq R1.fh h, by rw [empt r]⟩
    · cases hk
      obtain ⟨a, xs, rfl, h, r⟩ := rep_tup r1
      exact .inr (.inl ⟨xs, seqT R1.fh h, by rw [empt r]⟩)
    · cases hk
end
end DL
namespace DL
open PySem PySem.Spec L2
section
variable {X : Cx} {C : Ct} {W : WX} {a b c e : Expr} {f g h : Mo D} {pos : Pos}
theorem sd_test {K : PySem.W.Frag} {te : TE} (s : SdE K C W te f) : SdT K C W (tTest te) (mB f) := fun F H σ ε Q R q => by
  refine s F H σ ε _ R ((good_mB q).imp (fun d e ⟨k, ek, q1⟩ v F1 H1 R1 st1 r1 => ?_) fun x e z => z)
  subst ek
  exact ⟨k, rep_bl r1, q1 F1 H1 R1 st1⟩
theorem te_cmp {op : CmpOp} {r : R2} {k : D → D → Option D} (ho : OpR X (compareOp op) r) (hm : behindInMarks op b = false) (hv : VOp X.K r k) (ha : EvD X C W a f) (hb : EvD X C W b g) : TeD X C W (.Compare a [op] [b] pos) (mB (mOp k f g)) := by
  obtain ⟨ta, pa, sa⟩ := ha
  obtain ⟨tb, pb, sb⟩ := hb
  exact ⟨_, pt_cmpR ho pa pb hm, sd_test (sd_op hv sa sb)⟩
theorem sd_chain {K : PySem.W.Frag} {r r' : R2} {g1 g2 : D → D → Option D} {ta tb tc : TE} (hv : VOp K r g1) (hv' : VOp K r' g2) (s0 : SdE K C W ta f) (s1 : SdE K C W tb g) (s2 : SdE K C W tc h) : SdE K C W (tChain r r' ta tb tc) (mChain g1 g2 f g h) := fun F H σ ε Q R q => by
  refine s0 F H σ ε _ R (q.bind.imp (fun d e q1 v F1 H1 R1 st1 r1 => ?_) fun x e z => z)
  refine s1 F1 H1 σ e _ R1 (q1.bind.imp (fun d2 e2 q2 v2 F2 H2 R2 st2 r2 => ?_) fun x e z => z.imp st1)
  have q3 := good_mB q2.bind
  unfold lft at q3
  cases hk : g1 d d2 with
  | none => rw [hk] at q3; exact q3.elim
  | some k =>
    rw [hk] at q3
    obtain ⟨kb, ek, q4⟩ := q3
    subst ek
    refine hv F2 H2 v v2 d d2 _ _ R2.fh (r1.mono st2.ff) r2 hk fun w F3 H3 st3 rw' => ⟨kb, rep_bl rw', ?_⟩
    have R3 := R2.step st3
    have stA := (st1.trans st2).trans (st3.stp (σ := σ) (ε := e2))
    cases kb with
    | false =>
      refine iteF ?_
      exact q4 _ F3 H3 R3 stA (.bl false)
    | true =>
      refine iteT ?_
      rw [if_pos rfl] at q4
      refine s2 F3 H3 σ e2 _ R3 (q4.bind.imp (fun d4 e4 q5 v4 F4 H4 R4 st4 r4 => ?_) fun x e z => z.imp stA)
      cases hg : g2 d2 d4 with
      | none => rw [hg] at q5; exact q5.elim
      | some y =>
        rw [hg] at q5
        exact hv' F4 H4 v2 v4 d2 d4 _ _ R4.fh ((r2.mono st3.ff).mono st4.ff) r4 hg fun w5 F5 H5 st5 rw5 => q5 w5 F5 H5 (R4.step st5) ((stA.trans st4).trans st5.stp) rw5
theorem te_chain {op op' : CmpOp} {r r' : R2} {g1 g2 : D → D → Option D} (ho : OpR X (compareOp op) r) (ho' : OpR X (compareOp op') r') (hv : VOp X.K r g1) (hv' : VOp X.K r' g2) (ha : EvD X C W a f) (hb : EvD X C W b g) (hc : EvD X C W c h)
    (hp : ∀ ta tb tc, PE X a ta → PE X b tb → PE X c tc → PT X e (tTest (tChain r r' ta tb tc))) : TeD X C W e (mB (mChain g1 g2 f g h)) := by
  obtain ⟨ta, p0, s0⟩ := ha
  obtain ⟨tb, p1, s1⟩ := hb
  obtain ⟨tc, p2, s2⟩ := hc
  exact ⟨_, hp _ _ _ p0 p1 p2, sd_test (sd_chain hv hv' s0 s1 s2)⟩
end
end DL

set_option Elab.async false
set_option linter.all false
set_option maxRecDepth 100000
/-! floor division by any divisor: what the state's top leaves lets it go -/
namespace DL
open PySem PySem.Spec L2
/-- a fragment that tells that nobody listens, at any state that holds it -/
structure SeerK (K : PySem.W.Frag) : Prop where
  mods : ∃ o es ep, List.lookup sysModules K = some o ∧ o.data = .dict es ep ∧ StrKeys es ∧ nsFind es "_pylong" = none
  c1 : PySem.W.nsIn K cStatics "sys.audit-hooks" = some none
  c2 : PySem.W.nsIn K cStatics "sys.dict" = some none
  main : ∃ bm oc sl d, PySem.W.nsIn K mainGlobals "__builtins__" = some (some (.ref bm)) ∧ List.lookup bm K = some ⟨oc, some builtinsNs, d, sl⟩ ∧ oc = .type "module"
theorem nsIn_none {K : PySem.W.Frag} {h : Heap} {a : Addr} {m : Str → Option Value} {n : Str} (X : K.In h) (G : h.Ns a m) (e : PySem.W.nsIn K a n = some none) : m n = none := by
  obtain ⟨o, es, ep, ho, hd, hs, hf⟩ := G
  unfold PySem.W.nsIn at e
  split at e
  · rename_i cls dict es' ep' slots hl
    have q := X _ _ hl
    rw [ho] at q
    cases q
    cases hd
    split at e
    · cases e
    · rename_i hn
      rw [← hf]
      unfold nsFind findBy
      rw [← Array.find?_toList]
      rw [hn]
      rfl
  · cases e
theorem SeerK.seer {K : PySem.W.Frag} {mg : Str → Option Value} {h : Heap} (S : SeerK K) (X : K.In h) (hg : h.Ns mainGlobals mg) (hb : ∃ mb, h.Ns builtinsNs mb ∧ ∀ (x : Str), x ≠ Str.ofString "__name__" → mb x = bootBuiltins x) (hl : h.NoLimit) : h.NoSeer where
  statics := by
    obtain ⟨mc, n, _⟩ := hl
    exact ⟨mc, n, nsIn_none X n S.c1, nsIn_none X n S.c2⟩
  mods := by
    obtain ⟨o, es, ep, h1, h2, h3, h4⟩ := S.mods
    exact ⟨nsFind es, ⟨o, es, ep, X _ _ h1, h2, h3, fun _ => rfl⟩, h4⟩
  imp := hb
  main := by
    obtain ⟨bm, oc, sl, d, h1, h2, h3⟩ := S.main
    exact ⟨mg, bm, _, hg, PySem.W.mg_of X hg h1, X _ _ h2, h3, rfl⟩
def Seer (X : Cx) : Prop := ∀ pins s σ H, L2.Inv X pins σ H s → PylongRoom (model X.prog X.w) X.A s
theorem base_ns {X : Cx} {pins : List (Addr × Obj)} {σ : List (Option V)} {H : Hp} {s : Shared} (I : L2.Inv X pins σ H s) {a : Addr} {m : Str → Option Value} (h : X.base.Ns a m) : s.heap.Ns a m := by
  obtain ⟨o, es, ep, h1, h2⟩ := h
  exact ⟨o, es, ep, (I.bs _ _ h1).1, h2⟩
theorem seer_cx {P : Program} {w : World} {K : PySem.W.Frag} {mg : Str → Option Value} {base : Heap} {CX : CXT} {N : List Str} {qual : Str} {sc : Scope} {f : Addr} {cd : Value} {A : Around} {outer : List Env} {s : Shared} {H : Hp} {E : XK} {k : Nat}
    (S : SeerK K) (hP : P.given.tree = none) (hr : Room k (A.deeper (PyProof.Rows.envOfC qual sc s.heap.objs.size f cd))) (hk : 32 ≤ k) (g1 : sc.isGenerator = false) (g2 : sc.isCoroutine = false) : Seer (cxOf CX P w K mg base N qual sc f cd A outer s H E) := fun pins s1 σ H1 I => by
  have M := I.ok.mod
  obtain ⟨mb, b1, b2⟩ := M.blt
  have N := SeerK.seer (mg := mg) S I.kIn (base_ns I M.glob) ⟨mb, base_ns I b1, b2⟩ I.nolimit
  refine PylongRoom.of I.nolimit ?_ ?_
  · have := hr.dp
    show (A.deeper _).depth + 100 < recursionLimit
    omega
  · exact SeerAt.of (env := PyProof.Rows.envOfC qual sc s.heap.objs.size f cd) (l := outer) N hP I.ok.frames g1 g2 I.ok.blt I.ok.glob
def CPos (i j : Int) : Prop := 0 < j
theorem op_fdivP {X : Cx} (S : Seer X) : OpR X (binaryOp .FloorDiv) (rI CPos fun i j => .int (i / j)) := by
  intro pins s σ H x y v u Q I rx ry h
  obtain ⟨i, j, rfl, rfl, hj, q⟩ := h
  obtain ⟨t, rfl⟩ := rx
  obtain ⟨t2, rfl⟩ := ry
  have hj : 0 < j := hj
  refine PyProof.Rows.floordiv_int (by omega) ?_ (Or.inr (S pins s σ H I))
  rw [Int.fdiv_eq_ediv_of_nonneg i (by omega)]
  exact ⟨.int _, H, I.kept (fun _ _ h => h), ⟨_, rfl⟩, q⟩
def gDivP := gI (fun _ j => decide (0 < j)) fun i j => .int (i / j)
theorem ev_divP {X : Cx} {C : Ct} {W : WX} {a b : Expr} {f g : Mo D} {pos : Pos} (S : Seer X) (ha : EvD X C W a f) (hb : EvD X C W b g) : EvD X C W (.BinOp a .FloorDiv b pos) (mOp gDivP f g) := ev_op (op_fdivP S) (vop_I (fun i j h => (show CPos i j from of_decide_eq_true (p := 0 < j) h)) fun _ _ _ => .int _) ha hb
/-! ### the end, with a fragment that tells it -/
theorem lk_app {K L : PySem.W.Frag} {a : Addr} {o : Obj} (h : List.lookup a K = some o) : List.lookup a (K ++ L) = some o := by
  induction K with
  | nil => cases h
  | cons p r ih =>
    rw [List.cons_append]
    unfold List.lookup at h ⊢
    split
    · rename_i e; rw [e] at h; exact h
    · rename_i e; rw [e] at h; exact ih h
theorem lk_none {K L : PySem.W.Frag} {a : Addr} (h : List.lookup a K = none) : List.lookup a (K ++ L) = List.lookup a L := by
  induction K with
  | nil => rfl
  | cons p r ih =>
    obtain ⟨k, b⟩ := p
    cases e : a == k with
    | true => simp [List.lookup, e] at h
    | false =>
      have h1 : List.lookup a ((k, b) :: r ++ L) = List.lookup a (r ++ L) := by
        rw [List.cons_append]
        show (match a == k with | true => some b | false => List.lookup a (r ++ L)) = _
        rw [e]
      have h2 : List.lookup a r = none := by
        have : List.lookup a ((k, b) :: r) = (match a == k with | true => some b | false => List.lookup a r) := rfl
        rw [this, e] at h
        exact h
      exact h1.trans (ih h2)
theorem ns_app {K L : PySem.W.Frag} {a : Addr} {n : Str} {r : Option Value} (h : PySem.W.nsIn K a n = some r) : PySem.W.nsIn (K ++ L) a n = some r := by
  unfold PySem.W.nsIn at h ⊢
  cases e : List.lookup a K with
  | none => rw [e] at h; cases h
  | some o => rw [lk_app e]; rw [e] at h; exact h
theorem code_app {K L : PySem.W.Frag} {v : Value} {q : Str} (h : PySem.W.codeIn K v q = true) : PySem.W.codeIn (K ++ L) v q = true := by
  unfold PySem.W.codeIn at h ⊢
  cases v with
  | ref c =>
    cases e : List.lookup c K with
    | none => simp only [e] at h; cases h
    | some o => simp only [lk_app e]; simp only [e] at h; exact h
  | _ => cases h
theorem keep_of {K : PySem.W.Frag} {f : Addr} {oc : Value} {od : Option Addr} {fd : FuncData} {sl : Array (Option Value)} (h : List.lookup f K = some ⟨oc, od, .func fd, sl⟩) : PySem.W.keepIn K (.ref f) = true := by
  unfold PySem.W.keepIn
  simp only [h]
/-- what a part of the state behind the top adds to a fragment -/
structure SeerL (bm : Addr) (K : PySem.W.Frag) : Prop where
  mods : ∃ o es ep, List.lookup sysModules K = some o ∧ o.data = .dict es ep ∧ StrKeys es ∧ nsFind es "_pylong" = none
  bm : ∃ ob, List.lookup bm K = some ob ∧ ob.cls = .type "module" ∧ ob.dict = some builtinsNs
theorem seer_app {K L : PySem.W.Frag} {bm : Addr} (hm : SeerL bm (K ++ L)) (m1 : PySem.W.nsIn K mainGlobals "__builtins__" = some (some (.ref bm)))
    (c1 : PySem.W.nsIn K cStatics "sys.audit-hooks" = some none) (c2 : PySem.W.nsIn K cStatics "sys.dict" = some none) : SeerK (K ++ L) :=
  ⟨hm.mods, ns_app c1, ns_app c2, by obtain ⟨⟨oc, od, d, sl⟩, h1, h2, h3⟩ := hm.bm; cases h3; exact ⟨bm, oc, sl, d, ns_app m1, h1, h2⟩⟩
theorem ns_eq {h : Heap} {a : Addr} {m m' : Str → Option Value} (h1 : h.Ns a m) (h2 : h.Ns a m') (x : Str) : m x = m' x := by
  obtain ⟨o, es, ep, e1, e2, _, e3⟩ := h1
  obtain ⟨o', es', ep', f1, f2, _, f3⟩ := h2
  rw [e1] at f1
  cases f1
  rw [e2] at f2
  cases f2
  rw [← e3, ← f3]
theorem walk_ofS {l : PySem.W.OpenLaw} {n k : Nat} {q : Program} {loose : List Str} {XP : (Str → Option Value) → Heap → Prop} {YP : World → Heap → Prop} {d : DefRec} {K : Params → PySem.W.Frag} {CX : World → CXT} {sp : World → PySem.W.Frag → Sp} {x : Str} {bm : Addr}
    (hn : l.most = some n) (hn2 : n ≤ sizeLine) (hdf : d.params.defaults = []) (hr : Room k callerA) (hq : PyProof.Rows.importsNone q = true) (hY : ∀ (w : World) (h : Heap), YP w h → (K w.params).In h)
    (hB2 : ∀ p, PySem.W.nsIn (K p) mainGlobals "__builtins__" = some (some (.ref bm))) (hK : ∀ p, List.lookup sysModules (K p) = none) (hB : ∀ p, List.lookup bm (K p) = none) (hne : (bm == sysModules) = false)
    (F : ∀ (w : World) (L : PySem.W.Frag) (mg : Str → Option Value) (fa : Addr) (h : Heap), SeerL bm (K w.params ++ L) → (K w.params ++ L).In h → h.Ns mainGlobals mg → mg d.name = some (.ref fa) →
      ∃ fd, (∀ (s : Shared) (u : Value), BindsTo s fd { pos := [u] } [(x, u)]) ∧ ∀ base : Heap, (K w.params ++ L).In base → base.Ns mainGlobals mg → FnOk l.prog w (K w.params ++ L) mg base (CX w) k fa fd [x] (sp w (K w.params ++ L)))
    (hsp : ∀ (w : World) (K : PySem.W.Frag) (H : Hp) (a : Addr) (ns : List Int), ns.length ≤ n → (∀ z : Int, z ∈ ns → Builtin.Int.intBits z ≤ 1048576) → Only H → SqL K H a (List.map V.int ns) → sp w K [V.ref a] H (fun v _ => v = V.bl true) fun _ _ _ => False)
    (hCX : ∀ (w : World) (H : Hp) (s : Shared) (e : Value) (s' : Shared), CX w [] H s (fun _ _ _ => False) e s' → False) : PySem.W.WalkO q loose XP YP l.row.toRowW d [] fun f vs => call f vs := by
  intro w s₀ s₁ mg mb G Y
  have N := G.T.seer hq
  obtain ⟨mm, ⟨o, es, ep, h1, h2, h3, h4⟩, h5⟩ := N.mods
  obtain ⟨mg2, bm2, ob, g1, g2, g3, g4, g5⟩ := N.main
  have eb : bm2 = bm := by
    have e1 := PySem.W.mg_of (hY _ _ Y) G.T.g (hB2 _)
    rw [ns_eq G.T.g g1, g2] at e1
    cases e1
    rfl
  subst eb
  have hY2 : ∀ (w' : World) (h' : Heap), (w' = w ∧ h' = s₁.heap) → (K w'.params ++ [(sysModules, o), (bm2, ob)]).In h' := by
    rintro w' h' ⟨rfl, rfl⟩ a o' ha
    cases e : List.lookup a (K w'.params) with
    | some o2 =>
      rw [lk_app e] at ha
      cases ha
      exact hY _ _ Y a _ e
    | none =>
      rw [lk_none e] at ha
      cases ea : a == sysModules with
      | true =>
        simp [List.lookup, ea] at ha
        rw [eq_of_beq ea, ← ha]
        exact h1
      | false =>
        cases eb : a == bm2 with
        | true =>
          simp [List.lookup, ea, eb] at ha
          rw [eq_of_beq eb, ← ha]
          exact g3
        | false => simp [List.lookup, ea, eb] at ha
  have hL : ∀ p, SeerL bm2 (K p ++ [(sysModules, o), (bm2, ob)]) := fun p => ⟨⟨o, es, ep, by rw [lk_none (hK _)]; simp [List.lookup], h2, h3, (h4 _).trans h5⟩, ⟨ob, by rw [lk_none (hB _)]; simp [List.lookup, hne], g4, g5⟩⟩
  exact walk_ofB (YP := fun w' h' => w' = w ∧ h' = s₁.heap) (XP := XP) (loose := loose) (q := q) (K := fun p => K p ++ [(sysModules, o), (bm2, ob)]) (CX := CX) (sp := fun w' => sp w' (K w'.params ++ [(sysModules, o), (bm2, ob)])) hn hn2 hdf hr hY2 (fun w' mg' fa h KX Gm hmg => F w' _ mg' fa h (hL _) KX Gm hmg) (fun w' H a ns => hsp w' _ H a ns) hCX w s₀ s₁ mg mb G ⟨rfl, rfl⟩
end DL

set_option Elab.async false
set_option linter.all false
set_option maxRecDepth 100000
set_option maxHeartbeats 200000
namespace DL
open PySem PySem.Spec L2
theorem kin_x {prog : Program} {w : World} {A : Around} {E : Value → Shared → Prop} {s : Shared} {K : PySem.W.Frag} {x D : Addr} {ox : Obj} {od : Option Obj} {Q : Option Value → Shared → Prop} (T : ExcC K D)
    (hf : PySem.W.findObj K D od "__class__" = some (.bind (.builtin "getset_descriptor.__get__") (.builtin "object.__class__"))) (X : K.In s.heap) (I : PySem.W.InstAt s.heap x ox D od) (h : Q (some (.ref D)) { s with toks := s.toks + 1 }) :
    wpAny (model prog w) A (getAttr? (.ref x) "__class__") Q E s := by
  obtain ⟨hp, g, d, t, os⟩ := s
  have L0 : PySem.W.Looks (model prog w) hp (typeOf (.ref x)) (.ref D) := I.type
  have L1 : PySem.W.Looks (model prog w) hp _ _ := PySem.W.looks_findIn X T.hg
  have L2' : PySem.W.Looks (model prog w) hp _ _ := PySem.W.looks_findIn X T.hk
  have L3 : PySem.W.Looks (model prog w) hp _ _ := PySem.W.looks_find X I hf
  have sub : PySem.W.Looks (model prog w) hp (isInstance (.ref x) (.type "BaseException")) true := PySem.W.Looks.andThen L0 (PySem.W.looks_subIn X T.hs)
  unfold getAttr?
  refine wpAny_bind (wpAny_mkText ?_)
  unfold getAttrBy?
  refine wpAny_bind (wpAny_attempt ?_)
  unfold getAttrBy
  refine wpAny_holding (wpAny_bind (PySem.W.Looks.at L0 (wpAny_bind (PySem.W.Looks.at L1 ?_))))
  have n1 : (onTheHeap (Value.ref D) && (Value.builtin "BaseException.__getattribute__" == Value.builtin "object.__getattribute__")) = false := by
    rw [show (Value.builtin "BaseException.__getattribute__" == Value.builtin "object.__getattribute__") = false by decide +kernel, Bool.and_false]
  show wpAny _ _ (if (onTheHeap (Value.ref D) && (Value.builtin "BaseException.__getattribute__" == Value.builtin "object.__getattribute__")) = true then _ else _) _ _ _
  rw [n1, if_neg Bool.false_ne_true]
  unfold getAttrByItsOwn
  refine wpAny_bind ?_
  show wpAny _ _ (if onTheHeap (Value.ref D) = true then _ else _) _ _ _
  rw [if_pos (show onTheHeap (Value.ref D) = true from rfl)]
  refine PySem.W.Looks.at L2' (wpAny_bind (wpAny_attempt (wpAny_holding ?_)))
  unfold callGetattribute
  rw [show (false && onTheHeap (Value.builtin "BaseException.__getattribute__")) = false from rfl, if_neg Bool.false_ne_true]
  unfold boundAndCalled
  refine wpAny_bind (wpAny_of_eq (PySem.F.excAttr_ValueError.ga.bind (Value.ref x)) ?_)
  refine wpAny_call ?_
  refine codeAny_call_builtin PySem.F.excAttr_ValueError.ga.plain PySem.F.entry_bexc_ga ?_
  have k1 : builtinKind "BaseException.__getattribute__" = some Manifest.AttrKind.slot := by decide +kernel
  have k2 : splitId "BaseException.__getattribute__" = some ("BaseException", "__getattribute__") := by decide +kernel
  have ar : argsOk "BaseException.__getattribute__" ⟨[Value.ref x, Value.str "__class__" t], []⟩ := PySem.F.args_bexc_ga (Value.ref x) (Value.str "__class__" t)
  refine @PySem.W.check_slot (model prog w) _ _ _ "BaseException.__getattribute__" "BaseException" "__getattribute__" (.ref x) [Value.str "__class__" t] [] _ k1 k2 sub ar ?_
  have k3 : slotArgs "__getattribute__" 1 ⟨[Value.ref x, Value.str "__class__" t], []⟩ = pure (Value.ref x, [Value.str "__class__" t]) := by simp [slotArgs]
  unfold Builtin.«object.__getattribute__»
  refine wpAny_bind (wpAny_of_eq k3 ?_)
  refine wpAny_bind (wpAny_pure ?_)
  refine wpAny_bind (PySem.W.Looks.at L0 ?_)
  refine wpAny_bind (PySem.W.Looks.at L3 ?_)
  change wpAny _ _ (Builtin.ObjectAttr.bindTo (.builtin "getset_descriptor.__get__") (.builtin "object.__class__") (Value.ref x) (Value.ref D)) _ _ _
  unfold Builtin.ObjectAttr.bindTo
  dsimp only
  refine wpAny_bind (wpAny_holding (wpAny_call (PySem.W.class_get X I T.hm ?_)))
  refine wpAny_pure ?_
  dsimp only
  rw [PySem.W.handedOut_of (v := Value.ref D) rfl]
  exact wpAny_pure (wpAny_pure h)
theorem kitx_x {K : PySem.W.Frag} {x D : Addr} {ox : Obj} {od : Option Obj} (T : ExcC K D)
    (hf : PySem.W.findObj K D od "__class__" = some (.bind (.builtin "getset_descriptor.__get__") (.builtin "object.__class__"))) : PySem.W.KitX K (.ref x) (.ref D) fun h => PySem.W.InstAt h x ox D od where
  ty := fun M h X I => I.type
  it := fun M h X I => by
    obtain ⟨cd, hc, _⟩ := PySem.W.any_some T.hd
    unfold PySem.W.clsIn at hc
    split at hc
    · rename_i cls dict cd' slots hl
      intro A Q E s hs q
      unfold isType
      refine wpAny_bind ?_
      unfold loadHead
      exact wpAny_loadPart (hs _ _ (X _ _ hl)) (wpAny_pure q)
    · cases hc
  ne := fun h tp dd its n sl X ht => by
    obtain ⟨cd, hc, _⟩ := PySem.W.any_some T.hd
    unfold PySem.W.clsIn at hc
    split at hc
    · rename_i cls dict cd' slots hl
      have e := X _ _ hl
      cases hq : (Value.ref D == Value.ref tp) with
      | false => rfl
      | true =>
        have := eq_of_beq hq
        cases this
        rw [ht] at e
        cases e
    · cases hc
  ca := fun X I h => kin_x T hf X I h
/-! ### isinstance of the exception that a suite holds -/
def XdOk (H : Hp) (d : Option Addr) : Prop := ∀ dd, d = some dd → ∃ fs, H dd = some (.xd fs)
theorem fo_x {K : PySem.W.Frag} {D : Addr} (T : ExcC K D) (od : Option Obj) : PySem.W.findObj K D od "__class__" = some (.bind (.builtin "getset_descriptor.__get__") (.builtin "object.__class__")) := by
  have hs : (PySem.W.clsIn K D).isSome = true := by
    obtain ⟨cd, hc, _⟩ := PySem.W.any_some T.hd
    rw [hc]; rfl
  cases od with
  | none => exact PySem.W.findObj_dataN hs T.ha T.hn T.ht
  | some o => exact PySem.W.findObj_data hs T.ha T.hn T.ht
section
variable {X : Cx} {a D : Addr} {oe : Obj} {d : Option Addr} {pn : List (Addr × Obj)}
theorem inst_x {pins : List (Addr × Obj)} {s : Shared} {σ : St} {H : Hp} (I : L2.Inv (X.suite a ((a, oe) :: pn)) pins σ H s) (hz : Zc (.ref D) d oe) (hf : ∃ vs, oe.data = .fields vs) (hx : XdOk H d) : ∃ od, PySem.W.InstAt s.heap a oe D od := by
  obtain ⟨hget, _⟩ := I.pin (a, oe) (List.mem_append_left _ List.mem_cons_self)
  obtain ⟨vs, hv⟩ := hf
  have hn : PySem.W.notCls oe = true := by unfold PySem.W.notCls; rw [hv] <;> rfl
  cases d with
  | none => exact ⟨none, hget, hz.1, hn, by rw [hz.2]; trivial⟩
  | some dd =>
    obtain ⟨fs, hd⟩ := hx dd rfl
    have ob : ObjOk _ _ H s.heap dd (.xd fs) := I.hok dd _ hd
    obtain ⟨mA, hns, _⟩ := ob
    obtain ⟨od, ho, _⟩ := lookIn_ns hns
    exact ⟨some od, hget, hz.1, hn, by rw [hz.2]; exact ho⟩
theorem call_isX (T : ExcC X.K D) (hz : Zc (.ref D) d oe) (hf : ∃ vs, oe.data = .fields vs) : CallR (X.suite a ((a, oe) :: pn)) (.builtin "isinstance") (fun xs H Q => ∃ (c : V) (cv : Value) (b : Bool), xs = [.ref a, c] ∧ XdOk H d ∧ (∀ u, RelV c u → u = cv) ∧ PySem.W.kitOne X.K (.ref D) cv = some b ∧ Q (.bl b) H) := by
  intro pins s σ H xs us Q I r ⟨c, cv, b, e, hx, hcv, hk, q⟩
  subst e
  cases r with
  | cons r1 r2 =>
    cases r2 with
    | cons r3 r4 =>
      cases r4
      obtain ⟨od, J⟩ := inst_x I hz hf hx
      have r1' := r1
      cases r1'
      exact PySem.W.kia_one (kitx_x T (fo_x T od)) I.kIn J (by rw [hcv _ r3]; exact hk) (fun z => by cases z) fun tk => ⟨.bl b, H, I.kept (fun _ _ h => h), rfl, q⟩
theorem call_isXT (T : ExcC X.K D) (hz : Zc (.ref D) d oe) (hf : ∃ vs, oe.data = .fields vs) : CallR (X.suite a ((a, oe) :: pn)) (.builtin "isinstance") (fun xs H Q => ∃ (tp : Addr) (cs : List V) (us : List Value) (b : Bool), xs = [.ref a, .ref tp] ∧ XdOk H d ∧ H tp = some (.tup cs) ∧ (∀ vs, Vals cs vs → vs = us) ∧ PySem.W.kitAny X.K (.ref D) us = some b ∧ Q (.bl b) H) := by
  intro pins s σ H xs us Q I r ⟨tp, cs, us2, b, e, hx, ht, hcv, hk, q⟩
  subst e
  cases r with
  | cons r1 r2 =>
    cases r2 with
    | cons r3 r4 =>
      cases r4
      obtain ⟨od, J⟩ := inst_x I hz hf hx
      cases r1
      cases r3
      obtain ⟨its, rv, hi, _⟩ := I.tuple (.inl (.inl ht))
      obtain ⟨o, ho, h1, n, h2⟩ := hi
      obtain ⟨oc, odd, odat, osl⟩ := o
      cases h1
      cases h2
      have e := hcv _ rv
      subst e
      exact PySem.W.kia_tup (kitx_x T (fo_x T od)) I.kIn J ho hk (fun z => by cases z) fun tk => ⟨.bl b, H, I.kept (fun _ _ h => h), rfl, q⟩
end
end DL

set_option Elab.async false
set_option linter.all false
set_option maxRecDepth 100000
/-! try: .. except X as e: .. -/
namespace DL
open PySem PySem.Spec L2
def canS (K : PySem.W.Frag) (C : Ct) (W : WX) (g : MoS) : TS := fun D σ H => ∃ F ε, Rep K C F H σ ε ∧ GoodS K C W F D (g ε)
theorem SsD.can {X : Cx} {C : Ct} {W : WX} {b : List Stmt} {g : MoS} (h : SsD X C W b g) : PSs X b (canS X.K C W g) := by
  obtain ⟨ts, p, s⟩ := h
  exact ⟨fun pins st σ H D I ⟨F, ε, R, q⟩ => p.run pins st σ H D I (s F H σ ε D R q)⟩
/-- what is known of an exception in its suite -/
structure XcOk (K : PySem.W.Frag) (C : Ct) (x : Xn) (cls : Value) (d : Option Addr) : Prop where
  cls : ∃ c, cls = .ref c ∧ PySem.W.nsIn K mainGlobals (Str.ofString x.cls) = some (some (.ref c))
  fs : (d = none ∧ x.fs = []) ∨ ∃ dd vs, d = some dd ∧ C.H0 dd = some (.xd vs) ∧ RepF K C.F0 vs x.fs
def Ent.cl : Ent → Ent
  | .xc => .un
  | .od _ => .un
  | e => e
def noX (ε : List Ent) : List Ent := ε.map Ent.cl
theorem cl_mut {e : Ent} (h : e.cl.mut = true) : e.mut = true := by
  cases e <;> first | exact h | cases h
theorem noX_get {ε : List Ent} {j : Nat} {e : Ent} (h : (noX ε)[j]? = some e) : ∃ e0, ε[j]? = some e0 ∧ e0.cl = e := by
  unfold noX at h
  rw [List.getElem?_map] at h
  cases q : ε[j]? with
  | none => rw [q] at h; cases h
  | some e0 => rw [q] at h; cases h; exact ⟨e0, rfl, rfl⟩
section
variable {K : PySem.W.Frag} {C : Ct} {F H : Hp} {σ : St} {ε : List Ent}
theorem Rep.toSuite (R : Rep K C F H σ ε) (i : Nat) (a : Addr) {H0' : Hp} (h1 : ∀ b o, H0' b = some o → C.A ≠ some b → H b = some o) (h2 : ∀ b, H0' b ≠ none → H b ≠ none) (h3 : ∀ l vs, H l = some (.lst vs) → C.H0 l = none → H0' l = none) :
    Rep K ⟨F, H0', C.A, some a⟩ F H (σ.set i (some (.ref a))) ((noX ε).set i .xc) where
  fh := R.fh
  ff := Same.refl F
  old := fun _ _ => rfl
  keep := h1
  tr := h2
  len := by rw [List.length_set, List.length_set]; unfold noX; rw [List.length_map]; exact R.len
  ent := fun j e he => by
    by_cases hj : i = j
    · subst hj
      have hl : i < (noX ε).length := by
        have := (List.getElem?_eq_some_iff.mp he).1
        rwa [List.length_set] at this
      rw [List.getElem?_set_self hl] at he
      cases he
      exact ⟨a, rfl, by rw [List.getElem?_set_self (by rw [R.len]; unfold noX at hl; rwa [List.length_map] at hl)]⟩
    · rw [List.getElem?_set_ne hj] at he
      rw [List.getElem?_set_ne hj]
      obtain ⟨e0, h0, rfl⟩ := noX_get he
      have q := R.ent j e0 h0
      cases e0 with
      | un => trivial
      | xc => trivial
      | dat d => exact q
      | own ds =>
        obtain ⟨l, vs, q1, q2, q3, q4, q5⟩ := q
        exact ⟨l, vs, q1, q2, q3, q4, h3 l vs q2 q5⟩
      | io ds => exact q
      | od ob => trivial
  dis := fun p q l e e' g1 g2 g3 g4 g5 g6 => by
    by_cases hp : i = p
    · subst hp
      have hl : i < (noX ε).length := by
        have := (List.getElem?_eq_some_iff.mp g3).1
        rwa [List.length_set] at this
      rw [List.getElem?_set_self hl] at g3
      cases g3; cases g5
    · by_cases hq : i = q
      · subst hq
        have hl : i < (noX ε).length := by
          have := (List.getElem?_eq_some_iff.mp g4).1
          rwa [List.length_set] at this
        rw [List.getElem?_set_self hl] at g4
        cases g4; cases g6
      · rw [List.getElem?_set_ne hp] at g1 g3
        rw [List.getElem?_set_ne hq] at g2 g4
        obtain ⟨e0, k0, rfl⟩ := noX_get g3
        obtain ⟨e1, k1, rfl⟩ := noX_get g4
        exact R.dis p q l e0 e1 g1 g2 k0 k1 (cl_mut g5) (cl_mut g6)
theorem Rep.ofSuite {a : Option Addr} {F0 H0' : Hp} (R : Rep K ⟨F0, H0', C.A, a⟩ F H σ ε) (h1 : Same C.F0 F0) (h2 : ∀ b, C.H0 b ≠ none → F0 b = C.F0 b) (h3 : ∀ b o, C.H0 b = some o → C.A ≠ some b → H0' b = some o) (h4 : ∀ b, C.H0 b ≠ none → H0' b ≠ none) : Rep K C F H σ (noX ε) where
  fh := R.fh
  ff := h1.trans R.ff
  old := fun b h => (R.old b (h4 b h)).trans (h2 b h)
  keep := fun b o h n => R.keep b o (h3 b o h n) n
  tr := fun b h => R.tr b (h4 b h)
  len := by unfold noX; rw [List.length_map]; exact R.len
  ent := fun j e he => by
    obtain ⟨e0, h0, rfl⟩ := noX_get he
    have q := R.ent j e0 h0
    cases e0 with
    | un => trivial
    | xc => trivial
    | dat d => exact q
    | own ds =>
      obtain ⟨l, vs, q1, q2, q3, q4, q5⟩ := q
      refine ⟨l, vs, q1, q2, q3, q4, ?_⟩
      cases e : C.H0 l with
      | none => rfl
      | some o => exact absurd q5 (h4 l (by rw [e]; exact fun z => by cases z))
    | io ds => exact q
    | od ob => trivial
  dis := fun p q l e e' g1 g2 g3 g4 g5 g6 => by
    obtain ⟨e0, k0, rfl⟩ := noX_get g3
    obtain ⟨e1, k1, rfl⟩ := noX_get g4
    exact R.dis p q l e0 e1 g1 g2 k0 k1 (cl_mut g5) (cl_mut g6)
/-- a name is gone -/
theorem Rep.gone (R : Rep K C F H σ ε) (i : Nat) : Rep K C F H (σ.set i none) (ε.set i .un) where
  fh := R.fh
  ff := R.ff
  old := R.old
  keep := R.keep
  tr := R.tr
  len := by rw [List.length_set, List.length_set]; exact R.len
  ent := fun j e he => by
    by_cases hj : i = j
    · subst hj
      have hl : i < ε.length := by
        have := (List.getElem?_eq_some_iff.mp he).1
        rwa [List.length_set] at this
      rw [List.getElem?_set_self hl] at he
      cases he
      trivial
    · rw [List.getElem?_set_ne hj] at he
      rw [List.getElem?_set_ne hj]
      exact R.ent j e he
  dis := fun p q l e e' g1 g2 g3 g4 g5 g6 => by
    by_cases hp : i = p
    · subst hp
      have hl : i < ε.length := by
        have := (List.getElem?_eq_some_iff.mp g3).1
        rwa [List.length_set] at this
      rw [List.getElem?_set_self hl] at g3
      cases g3; cases g5
    · by_cases hq : i = q
      · subst hq
        have hl : i < ε.length := by
          have := (List.getElem?_eq_some_iff.mp g4).1
          rwa [List.length_set] at this
        rw [List.getElem?_set_self hl] at g4
        cases g4; cases g6
      · rw [List.getElem?_set_ne hp] at g1 g3
        rw [List.getElem?_set_ne hq] at g2 g4
        exact R.dis p q l e e' g1 g2 g3 g4 g5 g6
end
def after (i : Nat) : Option ResS → Option ResS
  | some (.nx ε) => some (.nx ((noX ε).set i .un))
  | some (.bk ε) => some (.bk ((noX ε).set i .un))
  | some (.ct ε) => some (.ct ((noX ε).set i .un))
  | some (.rt d ε) => some (.rt d (noX ε))
  | some (.ro ds ε) => some (.ro ds (noX ε))
  | _ => none
def mTry (i : Nat) (tbl : List (String × Bool)) (g : MoS) (su : Xn → MoS) : MoS := fun ε => match g ε with
  | some (.ex x ε') => (match tbl.lookup x.cls with
    | some true => after i (su x ((noX ε').set i .xc))
    | some false => some (.ex x ε')
    | none => none)
  | r => r
/-- from the suite back -/
theorem after_good {K : PySem.W.Frag} {C : Ct} {W : WX} {F F1 H0' : Hp} {D : Ends} {i : Nat} {a : Option Addr} {r : Option ResS} (h1 : Same C.F0 F1) (h2 : ∀ b, C.H0 b ≠ none → F1 b = C.F0 b) (h3 : ∀ b o, C.H0 b = some o → C.A ≠ some b → H0' b = some o) (h4 : ∀ b, C.H0 b ≠ none → H0' b ≠ none) (sF : Same F F1)
    (q : GoodS K C W F D (after i r)) : GoodS K ⟨F1, H0', C.A, a⟩ W0 F1 { nx := fun σ' H' => D.nx (List.set σ' i none) H', rt := D.rt, bk := fun σ' H' => D.bk (List.set σ' i none) H', ct := fun σ' H' => D.ct (List.set σ' i none) H' } r := by
  cases r with
  | none => exact q
  | some r =>
    cases r with
    | nx e => exact fun F' H' σ' R s => q F' H' _ ((R.ofSuite h1 h2 h3 h4).gone i) (sF.trans s)
    | bk e => exact fun F' H' σ' R s => q F' H' _ ((R.ofSuite h1 h2 h3 h4).gone i) (sF.trans s)
    | ct e => exact fun F' H' σ' R s => q F' H' _ ((R.ofSuite h1 h2 h3 h4).gone i) (sF.trans s)
    | rt d e => exact fun v F' H' σ' R s r => q v F' H' σ' (R.ofSuite h1 h2 h3 h4) (sF.trans s) r
    | ro ds e => exact fun l vs F' H' σ' R s k1 k2 k3 k4 => q l vs F' H' σ' (R.ofSuite h1 h2 h3 h4) (sF.trans s) k1 k2 k3 (by
        cases e : C.H0 l with
        | none => rfl
        | some o => exact absurd k4 (h4 l (by rw [e]; exact fun z => by cases z)))
    | ex x e => exact q.elim
section
variable {X : Cx} {C : Ct} {W : WX} {x n : Str} {c : Value} {i : Nat} {body suite : List Stmt} {b₀ : Stmt} {np pos pos' : Pos} {g : MoS} {su : Xn → MoS} {tbl : List (String × Bool)}
theorem st_try (hA : C.A = none) (hs : X.stack = X.env :: X.outer) (hf : X.env.frame = some X.env.locals) (hN : X.N.Nodup) (hi : X.N[i]? = some n) (hln : X.env.kindOf n = some .local) (hc : Names X x c) (tk : Takes X W)
    (hT : ∀ s b, tbl.lookup s = some b → ∀ a, PySem.W.nsIn X.K mainGlobals (Str.ofString s) = some (some (.ref a)) → PySem.W.exmOne X.K (.ref a) c = some b)
    (hb : ∀ (W : WX) (pn : List (Addr × Obj)) (xe : Value → Shared → Prop), Takes (X.tr pn xe) W → SsD (X.tr pn xe) C W body g)
    (hsu : ∀ (a : Addr) (oe : Obj) (cls : Value) (d : Option Addr) (pn : List (Addr × Obj)) (C' : Ct) (x : Xn), C'.xa = some a → C'.A = none → XcOk X.K C' x cls d → Zc cls d oe → (∃ vs, oe.data = .fields vs) → SsD (X.suite a ((a, oe) :: pn)) C' W0 (b₀ :: suite) (su x)) :
    StD X C W (.Try body [.ExceptHandler (some (.Name x np)) (some n) (b₀ :: suite) pos'] [] [] pos) (mTry i tbl g su) := by
  refine ⟨_, ps_try_as (tb := fun W' => canS X.K C W' g) (ts := fun a cls d D σ H => ∃ (C' : Ct) (F : Hp) (ε : List Ent) (x : Xn), C'.xa = some a ∧ C'.A = none ∧ XcOk X.K C' x cls d ∧ Rep X.K C' F H σ ε ∧ GoodS X.K C' W0 F D (su x ε)) (Wout := W) hs hf hN hi hln hc tk (fun W' pn xe tk' _ => (hb W' pn xe tk').can) (fun a oe cls d pn hz hfv => ⟨fun pins st σ H D I h => ?_⟩), fun F H σ ε D R q => ?_⟩
  · obtain ⟨C', F, ε, x, h1, h2, h3, R, q⟩ := h
    exact ((hsu a oe cls d pn C' x h1 h2 h3 hz hfv).can).run pins st σ H D I ⟨F, ε, R, q⟩
  · refine ⟨F, ε, R, ?_⟩
    unfold mTry at q
    cases hg : g ε with
    | none => rw [hg] at q; exact q
    | some r =>
      rw [hg] at q
      cases r with
      | nx e => exact q
      | rt d e => exact q
      | ro d e => exact q
      | bk e => exact q
      | ct e => exact q
      | ex x e =>
        intro c1 od F1 H1 σ1 R1 s1 rx
        dsimp only at q
        obtain ⟨a1, rfl, hn⟩ := rx.cls
        cases ht : tbl.lookup x.cls with
        | none => rw [ht] at q; exact q.elim
        | some b =>
          rw [ht] at q
          refine ⟨b, hT _ _ ht a1 hn, fun hb => ?_, fun hb => ?_⟩
          · subst hb
            intro a ha
            dsimp only at q
            rcases rx.fs with ⟨e1, e2⟩ | ⟨dd, vs, e1, e2, e3⟩
            · refine ⟨⟨F1, C.H0, C.A, some a⟩, F1, _, x, rfl, hA, ⟨⟨a1, rfl, hn⟩, .inl ⟨e1, e2⟩⟩, R1.toSuite i a R1.keep R1.tr (fun l vs _ h => h), ?_⟩
              exact after_good R1.ff R1.old (fun b o h _ => h) (fun b h => h) s1 q
            · have h0 : ∀ b o, C.H0 b = some o → (upd C.H0 dd (.xd vs)) b = some o := fun b o h => by
                by_cases hb : b = dd
                · subst hb
                  have := R1.keep b o h (by rw [hA]; exact fun z => by cases z)
                  rw [e2] at this
                  cases this
                  exact upd_same
                · rw [upd_ne hb]; exact h
              have h4 : ∀ b, C.H0 b ≠ none → (upd C.H0 dd (.xd vs)) b ≠ none := fun b h => by
                cases e : C.H0 b with
                | none => exact absurd e h
                | some o => rw [h0 b o e]; exact fun z => by cases z
              refine ⟨⟨F1, upd C.H0 dd (.xd vs), C.A, some a⟩, F1, _, x, rfl, hA, ⟨⟨a1, rfl, hn⟩, .inr ⟨dd, vs, e1, upd_same, e3⟩⟩, R1.toSuite i a (fun b o h n => ?_) (fun b h => ?_) (fun l us k1 k2 => ?_), ?_⟩
              · by_cases hb : b = dd
                · subst hb; rw [upd_same] at h; cases h; exact e2
                · rw [upd_ne hb] at h; exact R1.keep b o h n
              · by_cases hb : b = dd
                · subst hb; rw [e2]; exact fun z => by cases z
                · rw [upd_ne hb] at h; exact R1.tr b h
              · rw [upd_ne (show l ≠ dd from fun z => by rw [z, e2] at k1; cases k1)]; exact k2
              · exact after_good R1.ff R1.old (fun b o h _ => h0 b o h) h4 s1 q
          · subst hb
            exact q (.ref a1) od F1 H1 σ1 R1 s1 rx
end
end DL

set_option Elab.async false
set_option linter.all false
set_option maxRecDepth 100000
/-! what a suite asks of its exception; raise -/
namespace DL
open PySem PySem.Spec L2
theorem RepF.get {K : PySem.W.Frag} {F : Hp} {f : Str} {d : D} : ∀ {vs : List (Str × V)} {ds : List (Str × D)}, RepF K F vs ds → ds.lookup f = some d → ∃ v, vs.lookup f = some v ∧ RepD K F v d
  | [], [], _, h => by cases h
  | (x, v) :: r, (y, e) :: s, h, q => by
    obtain ⟨rfl, h1, h2⟩ := h
    rw [List.lookup_cons] at q ⊢
    cases hb : f == x with
    | true => rw [hb] at q; cases q; exact ⟨v, rfl, h1⟩
    | false => rw [hb] at q; exact RepF.get h2 q
  | [], _ :: _, h, _ => h.elim
  | _ :: _, [], h, _ => h.elim
theorem RepF.mono {K : PySem.W.Frag} {F F' : Hp} (s : Same F F') : ∀ {vs : List (Str × V)} {ds : List (Str × D)}, RepF K F vs ds → RepF K F' vs ds
  | [], [], _ => trivial
  | (_, _) :: _, (_, _) :: _, h => ⟨h.1, h.2.1.mono s, RepF.mono s h.2.2⟩
  | [], _ :: _, h => h.elim
  | _ :: _, [], h => h.elim
theorem XcOk.xd {K : PySem.W.Frag} {C : Ct} {x : Xn} {cls : Value} {d : Option Addr} (h : XcOk K C x cls d) (hA : C.A = none) {F H : Hp} {σ : St} {ε : List Ent} (R : Rep K C F H σ ε) : XdOk H d := fun dd hd => by
  rcases h.fs with ⟨e, _⟩ | ⟨d2, vs, e, e2, _⟩
  · rw [e] at hd; cases hd
  · rw [e] at hd; cases hd
    exact ⟨vs, R.keep _ _ e2 (by rw [hA]; exact fun z => by cases z)⟩
section
variable {X : Cx} {a : Addr} {oe : Obj} {cls : Value} {d : Option Addr} {pn : List (Addr × Obj)} {C : Ct} {W : WX} {x : Xn} {e e1 e2 : Expr} {pos : Pos}
def mIsX (i : Nat) (b : Bool) : Mo D := fun ε => match ε[i]? with
  | some .xc => some (.ok (.bl b) ε)
  | _ => none
theorem mIsX_good {i : Nat} {b : Bool} {ε : List Ent} {p : D → List Ent → Prop} {q : Xn → List Ent → Prop} (h : Good (mIsX i b ε) p q) : ε[i]? = some .xc ∧ p (.bl b) ε := by
  unfold mIsX at h
  split at h
  · rename_i he; exact ⟨he, h⟩
  · exact h.elim
theorem ev_isX {i : Nat} {b : Bool} {v : V} {cv : Value} (hxa : C.xa = some a) (hA : C.A = none) (hX : XcOk X.K C x cls d) (hz : Zc cls d oe) (hf : ∃ vs, oe.data = .fields vs) (T : ∀ c, cls = .ref c → ExcC X.K c ∧ PySem.W.kitOne X.K (.ref c) cv = some b) (hcv : ∀ u, RelV v u → u = cv)
    (pp : PA (X.suite a ((a, oe) :: pn)) [e1, e2] (tCons (tVar i) (tCons (tC v) tNil))) (hp : ∀ r ta, CallR (X.suite a ((a, oe) :: pn)) (.builtin "isinstance") r → PA (X.suite a ((a, oe) :: pn)) [e1, e2] ta → PE (X.suite a ((a, oe) :: pn)) e (tCB r ta)) : EvD (X.suite a ((a, oe) :: pn)) C W e (mIsX i b) := by
  obtain ⟨c, hc, _⟩ := hX.cls
  obtain ⟨t1, t2⟩ := T c hc
  refine ⟨_, hp _ _ (call_isX t1 (hc ▸ hz) hf) pp, fun F H σ ε Q R q => ?_⟩
  obtain ⟨he, q⟩ := mIsX_good q
  obtain ⟨a', h1, h2⟩ := R.ent i _ he
  rw [hxa] at h1
  cases h1
  exact ⟨.ref a, h2, v, cv, b, rfl, hX.xd hA R, hcv, t2, q (.bl b) F H R Stp.refl (.bl b)⟩
theorem ev_isXT {i : Nat} {b : Bool} {cs : List V} {us : List Value} {tcs : TA} (hxa : C.xa = some a) (hA : C.A = none) (hX : XcOk X.K C x cls d) (hz : Zc cls d oe) (hf : ∃ vs, oe.data = .fields vs) (T : ∀ c, cls = .ref c → ExcC X.K c ∧ PySem.W.kitAny X.K (.ref c) us = some b) (hcv : ∀ vs, Vals cs vs → vs = us) (hl : cs.length ≤ sizeLine)
    (pp : PA (X.suite a ((a, oe) :: pn)) [e1, e2] (tCons (tVar i) (tCons (tTup tcs) tNil))) (ht : ∀ σ H Q, Q cs H → tcs σ H Q) (hp : ∀ r ta, CallR (X.suite a ((a, oe) :: pn)) (.builtin "isinstance") r → PA (X.suite a ((a, oe) :: pn)) [e1, e2] ta → PE (X.suite a ((a, oe) :: pn)) e (tCB r ta)) : EvD (X.suite a ((a, oe) :: pn)) C W e (mIsX i b) := by
  obtain ⟨c, hc, _⟩ := hX.cls
  obtain ⟨t1, t2⟩ := T c hc
  refine ⟨_, hp _ _ (call_isXT t1 (hc ▸ hz) hf) pp, fun F H σ ε Q R q => ?_⟩
  obtain ⟨he, q⟩ := mIsX_good q
  obtain ⟨a', h1, h2⟩ := R.ent i _ he
  rw [hxa] at h1
  cases h1
  refine ⟨.ref a, h2, ht _ _ _ ⟨hl, fun p hp => ?_⟩⟩
  exact ⟨p, cs, us, b, rfl, hX.xd hA (R.loose _ hp), upd_same, hcv, t2, q (.bl b) F _ (R.loose _ hp) (Ste.loose R.fh hp).stp (.bl b)⟩
def mXf (i : Nat) (x : Xn) (f : Str) : Mo D := fun ε => match ε[i]? with
  | some .xc => (match x.fs.lookup f with
    | some d => some (.ok d ε)
    | none => none)
  | _ => none
theorem ev_xf {i : Nat} {f : Str} (hxa : C.xa = some a) (hA : C.A = none) (hX : XcOk X.K C x cls d) (T : ∀ c, cls = .ref c → ∀ te, PE (X.suite a ((a, oe) :: pn)) e1 te → PE (X.suite a ((a, oe) :: pn)) e (tXf a cls d c f te)) (p1 : PE (X.suite a ((a, oe) :: pn)) e1 (tVar i)) : EvD (X.suite a ((a, oe) :: pn)) C W e (mXf i x f) := by
  obtain ⟨c, hc, _⟩ := hX.cls
  refine ⟨_, T c hc _ p1, fun F H σ ε Q R q => ?_⟩
  unfold mXf at q
  split at q
  · rename_i he
    cases hl : x.fs.lookup f with
    | none => rw [hl] at q; exact q.elim
    | some dv =>
      rw [hl] at q
      obtain ⟨a', h1, h2⟩ := R.ent i _ he
      rw [hxa] at h1
      cases h1
      rcases hX.fs with ⟨_, e2⟩ | ⟨dd, vs, e1, e2, e3⟩
      · rw [e2] at hl; cases hl
      · obtain ⟨v, k1, k2⟩ := (e3.mono R.ff).get hl
        exact ⟨.ref a, h2, rfl, hc, dd, vs, v, e1, R.keep _ _ e2 (by rw [hA]; exact fun z => by cases z), k1, q v F H R Stp.refl k2⟩
  · exact q.elim
end
/-! ### raise X(e): the class's __init__ keeps e in a field -/
def spInit (C : Addr) (f : Str) : Sp := fun vs H Q _ => ∃ (a : Addr) (v : V), vs = [.ref a, v] ∧ H a = some (exo a C none) ∧ ∀ dx, H dx = none → dx ≠ a → Q .non (upd (upd H dx (exd dx [(f, v)])) a (exo a C (some dx)))
theorem ok_init {P : Program} {w : World} {K : PySem.W.Frag} {mg : Str → Option Value} {base : Heap} {x qual : Str} {st : Stmt} {fI C : Addr} {fd : FuncData} {N ps : List Str} {f : Str} (F : Fun K x qual st fI fd) (S : FnScope N ps (defScope st)) (hn : N.length = 2) (hps : ps.length = 2) (hO : OexC K C) (hno : PySem.W.findIn K (.ref C) f = some none)
    (hb : ∀ (cdv : Value) (A : Around) (outer : List Env) (s : Shared) (H : Hp) (E : XK), PSs (cxOf CX0 P w K mg base N qual (defScope st) fI cdv A outer s H E).nox (defBody st) (tOst K f (tVar 0) (tVar 1))) : FnOk P w K mg base CX0 1 fI fd ps (spInit C f) := by
  refine F.ok (k := 0) S (fun vs H Q E h => ?_) (fun cdv A outer s H vs Q E hr h => ⟨_, hb cdv A outer s H E, ?_⟩)
  · obtain ⟨a, v, rfl, _⟩ := h
    exact hps.symm
  · obtain ⟨a, v, rfl, h1, h2⟩ := h
    refine ⟨v, ?_, .ref a, ?_, a, C, rfl, hO, hno, .inl ⟨h1, fun dx k1 k2 => h2 dx k1 k2⟩⟩
    · unfold L2.start; simp
    · unfold L2.start; simp
def mRaise1 (cls : String) (f : Str) (g : Mo (List D)) : MoS := mThen g fun ds ε => match ds with
  | [d] => some (.ex ⟨cls, [(f, d)]⟩ ε)
  | _ => none
theorem st_raise1 {X : Cx} {Ct' : Ct} {W : WX} {cls : String} {f : Str} {C fI : Addr} {fd : FuncData} {ps : List Str} {x : Str} {p pos pos2 : Pos} {e : Expr} {g : Mo (List D)} (hc : X.calm = true) (tk : Takes X W) (T : OexC X.K C) (hi : PySem.W.findIn X.K (.ref C) "__init__" = some (some (.ref fI))) (ht : PySem.W.typeIn X.K (.ref fI) = some (.type "function"))
    (F1 : FnOk X.prog X.w X.K X.mg X.base CX0 1 fI fd ps (spInit C f)) (hr : Room 2 X.A) (hb : Binds X.K fd ps []) (hg : Gl X x) (hm : X.mg x = some (.ref C)) (hn : PySem.W.nsIn X.K mainGlobals (Str.ofString cls) = some (some (.ref C))) (ha : EaD X Ct' W [e] g)
    (hdb : (x == Str.ofString "__debug__") = false := by decide) (he : starEach (e :: []) X.env = (false, eval e X.env) :: starEach [] X.env := by rfl) (hpl : (backTo pos (starEach [] X.env)).any (·.1) = false := by rfl) :
    StD X Ct' W (.Raise (some (.Call (.Name x p) [e] [] pos)) none pos2) (mRaise1 cls f g) := by
  obtain ⟨ta, p1, s1⟩ := ha
  refine ⟨_, ps_raise hc tk (pmk_oex (ds := []) (dvs := []) T hi ht F1 hr hb .nil pass0 hg hm p1 hdb he hpl), fun F H σ ε D R q => ?_⟩
  refine s1 F H σ ε _ R ((then_good q).imp (fun ds e1 q1 vs F1 H1 R1 st1 r1 => ?_) fun x e z => z)
  cases r1 with
  | nil => exact q1.elim
  | cons rv rr =>
    cases rr with
    | cons _ _ => exact q1.elim
    | nil =>
      rename_i v d
      refine ⟨by simp, fun a ha => ?_⟩
      refine ⟨a, v, rfl, upd_same, fun dx hdx hne => ⟨rfl, dx, [(f, v)], upd_same, by rw [upd_ne hne, upd_same], ?_, ?_⟩⟩
      · rw [upd_ne hne] at hdx; exact hdx
      · have hdx' : H1 dx = none := by rw [upd_ne hne] at hdx; exact hdx
        have eH : upd (L2.del (upd (upd (upd H1 a (exo a C none)) dx (exd dx [(f, v)])) a (exo a C (some dx))) a) dx (.xd [(f, v)]) = upd H1 dx (.xd [(f, v)]) := by
          funext b
          by_cases h1 : b = dx
          · subst h1; rw [upd_same, upd_same]
          · rw [upd_ne h1, upd_ne h1]
            unfold L2.del
            by_cases h2 : b = a
            · subst h2; rw [if_pos rfl]; exact ha.symm
            · rw [if_neg h2, upd_ne h2, upd_ne h1, upd_ne h2]
        rw [eH]
        exact q1 (.ref C) (some dx) F1 _ σ (R1.loose _ hdx') st1.ff ⟨⟨C, rfl, hn⟩, .inr ⟨dx, [(f, v)], rfl, upd_same, rfl, rv, trivial⟩⟩
/-- a statement that is never reached -/
theorem st_never {X : Cx} {C : Ct} {W : WX} {s : Stmt} : StD X C W s (fun _ => none) := ⟨_, ps_never, fun F H σ ε D R q => q.elim⟩
end DL

set_option Elab.async false
set_option linter.all false
set_option maxRecDepth 100000
/-! by tables: which class answers what -/
namespace DL
open PySem PySem.Spec L2
/-- what holds of the class that a name of the table names -/
def TblOk (K : PySem.W.Frag) (tbl : List (String × Bool)) (p : Addr → Bool → Prop) : Prop := ∀ s b, tbl.lookup s = some b → ∀ a, PySem.W.nsIn K mainGlobals (Str.ofString s) = some (some (.ref a)) → p a b
theorem tbl_nil {K : PySem.W.Frag} {p : Addr → Bool → Prop} : TblOk K [] p := fun _ _ h => by cases h
theorem tbl_cons {K : PySem.W.Frag} {p : Addr → Bool → Prop} {s : String} {b : Bool} {tbl : List (String × Bool)} {C : Addr} (hn : PySem.W.nsIn K mainGlobals (Str.ofString s) = some (some (.ref C))) (h : p C b) (r : TblOk K tbl p) : TblOk K ((s, b) :: tbl) p := fun s' b' hl a ha => by
  rw [List.lookup_cons] at hl
  cases hs : s' == s with
  | true =>
    rw [hs] at hl
    cases hl
    rw [eq_of_beq hs, hn] at ha
    cases ha
    exact h
  | false =>
    rw [hs] at hl
    exact r s' b' hl a ha
theorem ev_never {X : Cx} {C : Ct} {W : WX} {e : Expr} : EvD X C W e (fun _ => none) := ⟨fun _ _ _ => False, ⟨fun _ _ _ _ _ _ h => h.elim⟩, fun F H σ ε Q R q => q.elim⟩
def mIsT (i : Nat) (tbl : List (String × Bool)) (x : Xn) : Mo D := match tbl.lookup x.cls with
  | some b => mIsX i b
  | none => fun _ => none
def mXfT (i : Nat) (tbl : List (String × Bool)) (f : Str) (x : Xn) : Mo D := match tbl.lookup x.cls with
  | some _ => mXf i x f
  | none => fun _ => none
section
variable {X : Cx} {a : Addr} {oe : Obj} {cls : Value} {d : Option Addr} {pn : List (Addr × Obj)} {C : Ct} {W : WX} {x : Xn} {e e1 e2 : Expr} {pos : Pos} {tbl : List (String × Bool)}
theorem ev_isT1 {i : Nat} {v : V} {cv : Value} (hxa : C.xa = some a) (hA : C.A = none) (hX : XcOk X.K C x cls d) (hz : Zc cls d oe) (hf : ∃ vs, oe.data = .fields vs) (T : TblOk X.K tbl fun c b => ExcC X.K c ∧ PySem.W.kitOne X.K (.ref c) cv = some b) (hcv : ∀ u, RelV v u → u = cv)
    (pp : PA (X.suite a ((a, oe) :: pn)) [e1, e2] (tCons (tVar i) (tCons (tC v) tNil))) (hp : ∀ r ta, CallR (X.suite a ((a, oe) :: pn)) (.builtin "isinstance") r → PA (X.suite a ((a, oe) :: pn)) [e1, e2] ta → PE (X.suite a ((a, oe) :: pn)) e (tCB r ta)) : EvD (X.suite a ((a, oe) :: pn)) C W e (mIsT i tbl x) := by
  unfold mIsT
  cases hl : tbl.lookup x.cls with
  | none => exact ev_never
  | some b =>
    refine ev_isX hxa hA hX hz hf (fun c hc => ?_) hcv pp hp
    obtain ⟨c2, h1, h2⟩ := hX.cls
    rw [hc] at h1
    cases h1
    exact T _ _ hl _ h2
theorem ev_isTT {i : Nat} {cs : List V} {us : List Value} {tcs : TA} (hxa : C.xa = some a) (hA : C.A = none) (hX : XcOk X.K C x cls d) (hz : Zc cls d oe) (hf : ∃ vs, oe.data = .fields vs) (T : TblOk X.K tbl fun c b => ExcC X.K c ∧ PySem.W.kitAny X.K (.ref c) us = some b) (hcv : ∀ vs, Vals cs vs → vs = us) (hl : cs.length ≤ sizeLine)
    (pp : PA (X.suite a ((a, oe) :: pn)) [e1, e2] (tCons (tVar i) (tCons (tTup tcs) tNil))) (ht : ∀ σ H Q, Q cs H → tcs σ H Q) (hp : ∀ r ta, CallR (X.suite a ((a, oe) :: pn)) (.builtin "isinstance") r → PA (X.suite a ((a, oe) :: pn)) [e1, e2] ta → PE (X.suite a ((a, oe) :: pn)) e (tCB r ta)) : EvD (X.suite a ((a, oe) :: pn)) C W e (mIsT i tbl x) := by
  unfold mIsT
  cases hk : tbl.lookup x.cls with
  | none => exact ev_never
  | some b =>
    refine ev_isXT hxa hA hX hz hf (fun c hc => ?_) hcv hl pp ht hp
    obtain ⟨c2, h1, h2⟩ := hX.cls
    rw [hc] at h1
    cases h1
    exact T _ _ hk _ h2
theorem ev_xfT {i : Nat} {f : Str} (hxa : C.xa = some a) (hA : C.A = none) (hX : XcOk X.K C x cls d) (hz : Zc cls d oe) (hf : ∃ vs, oe.data = .fields vs) (T : TblOk X.K tbl fun c _ => XfC X.K c ∧ PySem.W.findIn X.K (.ref c) f = some none) (p1 : PE (X.suite a ((a, oe) :: pn)) e1 (tVar i))
    (hb : attributeBase e1 f X.env (eval e1 X.env) = eval e1 X.env := by rfl) : EvD (X.suite a ((a, oe) :: pn)) C W (.Attribute e1 f pos) (mXfT i tbl f x) := by
  unfold mXfT
  cases hk : tbl.lookup x.cls with
  | none => exact ev_never
  | some b =>
    refine ev_xf hxa hA hX (fun c hc te p => ?_) p1
    obtain ⟨c2, h1, h2⟩ := hX.cls
    rw [hc] at h1
    cases h1
    obtain ⟨k1, k2⟩ := T _ _ hk _ h2
    exact pe_xf k1 k2 hz hf p hb
end
/-- a list of classes: their values -/
theorem vals_refs : ∀ (cs : List Addr) (vs : List Value), Vals (cs.map V.ref) vs → vs = cs.map Value.ref
  | [], vs, h => by cases h; rfl
  | c :: r, vs, h => by
    cases h with
    | cons h1 h2 =>
      cases h1
      rw [vals_refs r _ h2]
      rfl
end DL

set_option Elab.async false
set_option linter.all false
set_option maxRecDepth 100000
/-! raise X(), X an own class without __init__ -/
namespace DL
open PySem PySem.Spec L2
theorem pmk_own0 {X : Cx} {C : Addr} {bmB : List Value} {B newId initId : String} {x : Str} {p pos : Pos} (F : ExcBaseFacts B newId initId bmB) (q : PySem.W.excIn X.K C bmB newId = true) (gC : X.mg x = some (.ref C)) (kC : PySem.W.keepIn X.K (.ref C) = true) (r : Raises X (.ref C)) (hg : Gl X x) (hd : (x == Str.ofString "__debug__") = false) :
    PMk X (.Call (.Name x p) [] [] pos) fun _ H Q => Q (.ref C) none H := by
  intro pins s σ H Q I h
  refine wpAny_Call_Name_kw (ld_glob I hg gC ?_ hd)
  have key : wpAny (model X.prog X.w) X.A (call (.ref C) []) (MkP X pins σ Q) X.xe s := by
    obtain ⟨bm, N, nm, qn, bs, hdct, sn, sub, ab, col, dd, k0, k1, k2, k3, k5, mN, h1, h2, h3, h4⟩ := exc_obj I.kIn q
    obtain ⟨hp, g, d, t, os⟩ := s
    exact wpAny_call_exc_subT F h4 h1 h2 h3 (fun h' e M => mk_of I M r h (I.hok.gone M.new)) (by simp)
  exact PySem.W.callWith_K0 I.kIn kC key
def mRaise0 (cls : String) : MoS := fun ε => some (.ex ⟨cls, []⟩ ε)
theorem st_raise0 {X : Cx} {Ct' : Ct} {W : WX} {cls : String} {C : Addr} {e : Expr} {pos2 : Pos} (hc : X.calm = true) (tk : Takes X W) (pm : PMk X e fun _ H Q => Q (.ref C) none H) (hn : PySem.W.nsIn X.K mainGlobals (Str.ofString cls) = some (some (.ref C))) : StD X Ct' W (.Raise (some e) none pos2) (mRaise0 cls) :=
  ⟨_, ps_raise hc tk pm, fun F H σ ε D R q => q (.ref C) none F H σ R (Same.refl F) ⟨⟨C, rfl, hn⟩, .inl ⟨rfl, rfl⟩⟩⟩
end DL

set_option Elab.async false
set_option linter.all false
set_option maxRecDepth 100000
namespace DL
open PySem PySem.Spec L2
section
variable {X : Cx} {C : Ct} {W : WX} {a b e : Expr} {pos : Pos} {f g : Mo D}
/-! ### a written dict of the module, its keys texts -/
def gKd (tbl : List (Str × D)) : D → Option D
  | .str z => tbl.lookup z
  | _ => none
def KdOk (K : PySem.W.Frag) (w : World) (p : Addr) (tbl : List (Str × D)) : Prop := ∀ z d, tbl.lookup z = some d → ∃ v, KDct K w p z v ∧ ∀ F, RepD K F v d
theorem kd_nil {K : PySem.W.Frag} {w : World} {p : Addr} : KdOk K w p [] := fun z d h => by cases h
theorem kd_cons {K : PySem.W.Frag} {w : World} {p : Addr} {x : Str} {c : D} {v : V} {u : Value} {es : Array DictEntry} {n : Nat} {tbl : List (Str × D)} (hl : K.lookup p = some ⟨.type "dict", none, .dict es n, #[]⟩) (hk : PySem.W.KeysLit w.params es.toList) (h : PySem.W.nsIn K p x = some (some u)) (hr : RelV v u) (hd : ∀ F, RepD K F v c) (r : KdOk K w p tbl) : KdOk K w p ((x, c) :: tbl) := fun z d q => by
  rw [List.lookup_cons] at q
  by_cases hz : (z == x) = true
  · rw [hz] at q
    have : c = d := Option.some.inj q
    subst this
    rw [eq_of_beq hz]
    exact ⟨v, ⟨es, n, u, hl, hk, h, hr⟩, hd⟩
  · have h0 : (z == x) = false := by simpa using hz
    rw [h0] at q
    exact r z d q
theorem ev_kd {p : Addr} {tbl : List (Str × D)} (ha : PE X a (tC (.ref p))) (hk : KdOk X.K X.w p tbl) (hs : PlainIx b) (hb : EvD X C W b g) : EvD X C W (.Subscript a b pos) (mUn (gKd tbl) g) := by
  obtain ⟨tb, pb, sb⟩ := hb
  refine ⟨_, pe_ix ix_kdict ha pb hs, fun F H σ ε Q R q => ?_⟩
  show tb σ H _
  refine sb F H σ ε _ R (q.bind.imp (fun d e q1 v F1 H1 R1 st1 r1 => ?_) fun x e z => z)
  unfold lft at q1
  cases hg : gKd tbl d with
  | none => rw [hg] at q1; exact q1.elim
  | some c =>
    rw [hg] at q1
    cases d with
    | str z =>
      have := rep_str r1
      subst this
      obtain ⟨w, k1, k2⟩ := hk z c hg
      exact ⟨p, z, w, rfl, rfl, k1, q1 w F1 H1 R1 st1 (k2 F1)⟩
    | _ => cases hg
/-! ### a call of a local name that holds a def of the module -/
structure DefOk (P : Program) (w : World) (K : PySem.W.Frag) (mg : Str → Option Value) (base : Heap) (k n : Nat) (x : Str) (m : List D → Option Ans) : Prop where
  ex : ∃ (f : Addr) (fd : FuncData) (ps : List Str), PySem.W.nsIn K mainGlobals x = some (some (.ref f)) ∧ FnOk P w K mg base (L2.CX P w) k f fd ps (SpP K n m) ∧ PySem.W.keepIn K (.ref f) = true ∧ Binds K fd ps []
def TabD (P : Program) (w : World) (K : PySem.W.Frag) (mg : Str → Option Value) (base : Heap) (k n : Nat) (tbl : List (Str × (List D → Option Ans))) : Prop := ∀ x m, tbl.lookup x = some m → DefOk P w K mg base k n x m
theorem td_nil {P : Program} {w : World} {K : PySem.W.Frag} {mg : Str → Option Value} {base : Heap} {k n : Nat} : TabD P w K mg base k n [] := fun z d h => by cases h
theorem td_cons {P : Program} {w : World} {K : PySem.W.Frag} {mg : Str → Option Value} {base : Heap} {k n : Nat} {x : Str} {m : List D → Option Ans} {tbl : List (Str × (List D → Option Ans))} (h : DefOk P w K mg base k n x m) (r : TabD P w K mg base k n tbl) : TabD P w K mg base k n ((x, m) :: tbl) := fun z d q => by
  rw [List.lookup_cons] at q
  by_cases hz : (z == x) = true
  · rw [hz] at q
    have : m = d := Option.some.inj q
    subst this
    rw [eq_of_beq hz]
    exact h
  · have h0 : (z == x) = false := by simpa using hz
    rw [h0] at q
    exact r z d q
def tCallT (K : PySem.W.Frag) (i n : Nat) (tbl : List (Str × (List D → Option Ans))) (E : St → XK) (t : TA) : TE := fun σ H Q => ∃ f x m, σ[i]? = some (some (.ref f)) ∧ PySem.W.nsIn K mainGlobals x = some (some (.ref f)) ∧ tbl.lookup x = some m ∧ t σ H fun vs H1 => SpP K n m vs H1 Q (E σ)
theorem pe_callT {k i n : Nat} {tbl : List (Str × (List D → Option Ans))} {E : St → XK} {x : Str} {p pos : Pos} {e : Expr} {es : List Expr} {t : TA} (hT : TabD X.prog X.w X.K X.mg X.base k n tbl) (hr : Room k X.A) (hv : PE X (.Name x p) (tVar i)) (hx : ∀ σ, PassesAt (L2.CX X.prog X.w) X σ (E σ)) (ha : PA X (e :: es) t)
    (he : starEach (e :: es) X.env = (false, eval e X.env) :: starEach es X.env := by rfl) (hpl : (backTo pos (starEach es X.env)).any (·.1) = false := by rfl) : PE X (.Call (.Name x p) (e :: es) [] pos) (tCallT X.K i n tbl E t) := by
  refine ⟨fun pins s σ H Q I h => ?_⟩
  obtain ⟨f, y, m, hs, hn, hm, ht⟩ := h
  obtain ⟨f', fd, ps, hn', F, hk, hb⟩ := (hT y m hm).ex
  rw [hn] at hn'
  cases hn'
  refine wpAny_Call_Name_kw (thn (hv.run pins s σ H (fun v H1 => v = .ref f ∧ H1 = H) I ⟨.ref f, hs, rfl, rfl⟩) fun u s1 ⟨v, H1, I1, r1, q1⟩ => ?_)
  obtain ⟨rfl, rfl⟩ := q1
  cases r1
  refine PySem.W.callWith_K (h₀ := X.base) I.ok.mod.kin hk (thn (ha.run pos pins s1 σ _ _ I1 ht) fun us s2 ⟨vs, H2, I2, r, q⟩ => ⟨I2.kIn, ?_⟩) he hpl
  exact run_fnSD F hr hb .nil (hx σ) I2 r (by rw [List.append_nil]; exact q)
def mCallL (i n : Nat) (tbl : List (Str × (List D → Option Ans))) (f : Mo (List D)) : Mo D := fun ε => match ε[i]? with
  | some (.dat (.fn x)) => (match tbl.lookup x with
    | some m => mFn n m f ε
    | none => none)
  | _ => none
theorem ev_loc {i n : Nat} {tbl : List (Str × (List D → Option Ans))} {es : List Expr} {fs : Mo (List D)} {E : St → XK} (hE : E = WE W) (ha : EaD X C W es fs) (hp : ∀ ta, PA X es ta → PE X e (tCallT X.K i n tbl E ta)) : EvD X C W e (mCallL i n tbl fs) := by
  subst hE
  obtain ⟨ta, p1, s1⟩ := ha
  refine ⟨_, hp _ p1, fun F H σ ε Q R q => ?_⟩
  unfold mCallL at q
  cases he : ε[i]? with
  | none => rw [he] at q; exact q.elim
  | some z =>
    rw [he] at q
    cases z with
    | dat d =>
      cases d with
      | fn x =>
        dsimp only at q
        cases hm : tbl.lookup x with
        | none => rw [hm] at q; exact q.elim
        | some m =>
          rw [hm] at q
          dsimp only at q
          obtain ⟨v, h1, h2⟩ := R.ent i _ he
          cases h2 with
          | fn hn =>
            refine ⟨_, x, m, h1, hn, hm, ?_⟩
            refine s1 F H σ ε _ R (q.bind.imp (fun ds e q1 vs F1 H1 R1 st1 r1 => ?_) fun x e z => z)
            by_cases hl : ds.length = n
            · rw [if_pos hl] at q1
              refine ⟨by rw [r1.length]; exact hl, F1, ds, R1.fh, r1, ?_⟩
              unfold ansM at q1
              cases hmm : m ds with
              | none => rw [hmm] at q1; exact q1.elim
              | some an =>
                rw [hmm] at q1
                cases an with
                | ret d => exact fun v F' H' st r => q1 v F' H' (R1.step st) (st1.trans st.stp) r
                | exc x => exact fun c od F' H' st r => q1 c od F' H' (R1.step st) (st1.trans st.stp) r
            · rw [if_neg hl] at q1; exact q1.elim
      | _ => exact q.elim
    | _ => exact q.elim
theorem cl_loc {k i n : Nat} {tbl : List (Str × (List D → Option Ans))} {x : Str} {p pos : Pos} {e : Expr} {es : List Expr} {fs : Mo (List D)} (hT : TabD X.prog X.w X.K X.mg X.base k n tbl) (tk : Takes X W) (hr : Room k X.A) (hv : PE X (.Name x p) (tVar i))
    (ha : EaD X C W (e :: es) fs) (he : starEach (e :: es) X.env = (false, eval e X.env) :: starEach es X.env := by rfl) (hpl : (backTo pos (starEach es X.env)).any (·.1) = false := by rfl) :
    EvD X C W (.Call (.Name x p) (e :: es) [] pos) (mCallL i n tbl fs) := ev_loc rfl ha fun _ pa => pe_callT hT hr hv (fun σ => passAt tk σ) pa he hpl
/-! ### f() -/
theorem pe_callZ {k : Nat} {f : Addr} {fd : FuncData} {ps : List Str} {sp : Sp} {E : St → XK} {x : Str} {p pos : Pos} (F : FnOk X.prog X.w X.K X.mg X.base (L2.CX X.prog X.w) k f fd ps sp) (hr : Room k X.A) (hg : Gl X x) (hm : X.mg x = some (.ref f)) (hk : PySem.W.keepIn X.K (.ref f) = true) (hb : Binds X.K fd ps []) (hx : ∀ σ, PassesAt (L2.CX X.prog X.w) X σ (E σ))
    (hdb : (x == ("__debug__" : Str)) = false := by decide) : PE X (.Call (.Name x p) [] [] pos) (tCallS sp E tNil) := by
  refine ⟨fun pins s σ H Q I h => ?_⟩
  refine wpAny_Call_Name_kw (ld_glob I hg hm ?_ hdb)
  exact PySem.W.callWith_K0 I.kIn hk (run_fnS (us := []) F hr hb (hx σ) I .nil h)
theorem cl_fn0 {k n : Nat} {f : Addr} {fd : FuncData} {ps : List Str} {m : List D → Option Ans} {x : Str} {p pos : Pos} (F : FnOk X.prog X.w X.K X.mg X.base (L2.CX X.prog X.w) k f fd ps (SpP X.K n m)) (tk : Takes X W) (hr : Room k X.A) (hg : Gl X x) (hm : X.mg x = some (.ref f)) (hk : PySem.W.keepIn X.K (.ref f) = true) (hb : Binds X.K fd ps [])
    (hdb : (x == ("__debug__" : Str)) = false := by decide) : EvD X C W (.Call (.Name x p) [] [] pos) (mFn n m (pur [])) := by
  refine ⟨_, pe_callZ (E := WE W) F hr hg hm hk hb (fun σ => passAt tk σ) hdb, fun F0 H σ ε Q R q => ?_⟩
  have q1 : Good ((if ([] : List D).length = n then ansM (m []) else lft none) ε) _ _ := q
  by_cases hl : ([] : List D).length = n
  · rw [if_pos hl] at q1
    refine ⟨hl, F0, [], R.fh, .nil, ?_⟩
    unfold ansM at q1
    cases hm2 : m [] with
    | none => rw [hm2] at q1; exact q1.elim
    | some an =>
      rw [hm2] at q1
      cases an with
      | ret d => exact fun v F' H' st r => q1 v F' H' (R.step st) st.stp r
      | exc x => exact fun c od F' H' st r => q1 c od F' H' (R.step st) st.stp r
  · rw [if_neg hl] at q1; exact q1.elim
/-! ### s.upper() -/
def gUpper : D → Option D
  | .str x => if x.length ≤ 1000 then some (.str (Txt.upper x)) else none
  | _ => none
theorem ev_upper {apos pos : Pos} (ho : EvD X C W a f) (hbase : attributeBase a "upper" X.env (eval a X.env) = eval a X.env := by rfl) (hline : (apos.endLine == pos.line) = true := by rfl) : EvD X C W (.Call (.Attribute a "upper" apos) [] [] pos) (mUn gUpper f) := by
  obtain ⟨ta, pa, sa⟩ := ho
  refine ⟨_, pe_upper pa hbase hline, fun F H σ ε Q R q => ?_⟩
  refine sa F H σ ε _ R (q.bind.imp (fun d e q1 v F1 H1 R1 st1 r1 => ?_) fun x e z => z)
  unfold lft at q1
  cases hg : gUpper d with
  | none => rw [hg] at q1; exact q1.elim
  | some c =>
    rw [hg] at q1
    cases d with
    | str z =>
      have := rep_str r1
      subst this
      by_cases hl : z.length ≤ 1000
      · simp only [gUpper, hl, if_true, Option.some.injEq] at hg
        subst hg
        exact ⟨⟨_, rfl⟩, _, rfl, rfl, Nat.le_trans hl (by decide), q1 _ F1 H1 R1 st1 (.str _)⟩
      · simp only [gUpper, hl, if_false] at hg
        cases hg
    | _ => cases hg
/-! ### names unpacked from a list -/
def gdLst (is : List Nat) : Tg := ⟨is, fun d => match d with
  | .lst ds => if ds.length = is.length then some ds else none
  | _ => none⟩
theorem sg_lst {K : PySem.W.Frag} {is : List Nat} {n : Nat} (hn : n = is.length) : SdG K (gUnl K n (gNames is)) (gdLst is) := fun F H σ v d ds Q s r e q => by
  unfold gdLst at e
  dsimp only at e
  split at e
  · split at e
    · rename_i hl
      cases e
      obtain ⟨a, xs, rfl, h, r2⟩ := rep_seqs r
      exact ⟨a, xs, rfl, Same.seq s h, by rw [r2.length, hl, hn], gNames_run (by rw [r2.length]; exact hl) (q xs r2)⟩
    · cases e
  · cases e
end
end DL

set_option Elab.async false
set_option linter.all false
set_option maxRecDepth 100000
namespace DL
open PySem PySem.Spec L2
/-! ### dicts of one's own -/
section
variable {K : PySem.W.Frag} {F : Hp} {κ : Type} [DecidableEq κ]
def valQ (qs : List (κ × D)) (k : κ) : Option D := (qs.find? fun kv => decide (kv.1 = k)).map (·.2)
def putQ (qs : List (κ × D)) (k : κ) (d : D) : List (κ × D) :=
  if (qs.any fun kv => decide (kv.1 = k)) = true then qs.map (fun kv => if kv.1 = k then (kv.1, d) else kv) else qs ++ [(k, d)]
theorem RepQ.val : ∀ {kvs : List (κ × V)} {qs : List (κ × D)} {k : κ} {d : D}, RepQ K F kvs qs → valQ qs k = some d → ∃ v, valV kvs k = some v ∧ RepD K F v d
  | [], [], k, d, _, e => by cases e
  | (x, v) :: r, (y, c) :: t, k, d, h, e => by
    obtain ⟨h1, h2, h3⟩ := h
    subst h1
    by_cases hx : x = k
    · subst hx
      simp [valQ] at e
      subst e
      exact ⟨v, by simp [valV], h2⟩
    · have e2 : valQ t k = some d := by simpa [valQ, List.find?_cons, hx] using e
      obtain ⟨w, a, b⟩ := RepQ.val h3 e2
      exact ⟨w, by rw [valV_neg hx]; exact a, b⟩
  | [], _ :: _, _, _, h, _ => h.elim
  | _ :: _, [], _, _, h, _ => h.elim
theorem RepQ.any : ∀ {kvs : List (κ × V)} {qs : List (κ × D)} (k : κ), RepQ K F kvs qs → (kvs.any fun kv => decide (kv.1 = k)) = (qs.any fun kv => decide (kv.1 = k))
  | [], [], _, _ => rfl
  | (x, v) :: r, (y, c) :: t, k, h => by
    obtain ⟨h1, h2, h3⟩ := h
    subst h1
    rw [List.any_cons, List.any_cons, RepQ.any k h3]
  | [], _ :: _, _, h => h.elim
  | _ :: _, [], _, h => h.elim
theorem RepQ.map : ∀ {kvs : List (κ × V)} {qs : List (κ × D)} {k : κ} {v : V} {d : D}, RepQ K F kvs qs → RepD K F v d → RepQ K F (kvs.map fun kv => if kv.1 = k then (kv.1, v) else kv) (qs.map fun kv => if kv.1 = k then (kv.1, d) else kv)
  | [], [], _, _, _, _, _ => trivial
  | (x, w) :: r, (y, c) :: t, k, v, d, h, hd => by
    obtain ⟨h1, h2, h3⟩ := h
    subst h1
    rw [List.map_cons, List.map_cons]
    by_cases hx : x = k
    · simp only [hx, if_true]
      exact ⟨rfl, hd, RepQ.map h3 hd⟩
    · simp only [hx, if_false]
      exact ⟨rfl, h2, RepQ.map h3 hd⟩
  | [], _ :: _, _, _, _, h, _ => h.elim
  | _ :: _, [], _, _, _, h, _ => h.elim
theorem RepQ.snoc : ∀ {kvs : List (κ × V)} {qs : List (κ × D)} {k : κ} {v : V} {d : D}, RepQ K F kvs qs → RepD K F v d → RepQ K F (kvs ++ [(k, v)]) (qs ++ [(k, d)])
  | [], [], _, _, _, _, hd => ⟨rfl, hd, trivial⟩
  | (x, w) :: r, (y, c) :: t, k, v, d, h, hd => ⟨h.1, h.2.1, RepQ.snoc h.2.2 hd⟩
  | [], _ :: _, _, _, _, h, _ => h.elim
  | _ :: _, [], _, _, _, h, _ => h.elim
theorem RepQ.put {kvs : List (κ × V)} {qs : List (κ × D)} {k : κ} {v : V} {d : D} (h : RepQ K F kvs qs) (hd : RepD K F v d) : RepQ K F (putK kvs k v) (putQ qs k d) := by
  unfold putK putQ
  rw [RepQ.any k h]
  split
  · exact RepQ.map h hd
  · exact RepQ.snoc h hd
omit [DecidableEq κ] in
theorem RepQ.length : ∀ {kvs : List (κ × V)} {qs : List (κ × D)}, RepQ K F kvs qs → kvs.length = qs.length
  | [], [], _ => rfl
  | (x, w) :: r, (y, c) :: t, h => by rw [List.length_cons, List.length_cons, RepQ.length h.2.2]
  | [], _ :: _, h => h.elim
  | _ :: _, [], h => h.elim
omit [DecidableEq κ] in
theorem RepQ.zip {kvs : List (κ × V)} {ks : List κ} {ds : List D} (e : kvs.map (·.1) = ks) (r : RepL K F (kvs.map (·.2)) ds) : RepQ K F kvs (ks.zip ds) := by
  have hl := r.length
  rw [List.length_map] at hl
  have hk : ks.length = kvs.length := by rw [← e, List.length_map]
  refine RepQ.of ?_ ?_
  · rw [e, List.map_fst_zip (by omega)]
  · rw [List.map_snd_zip (by omega)]; exact r
end
def keyD : D → Option Key
  | .int i => some (.inl i)
  | .str x => some (.inr x)
  | _ => none
theorem keyD_rep {K : PySem.W.Frag} {F : Hp} {v : V} {d : D} {k : Key} (h : RepD K F v d) (e : keyD d = some k) : v = kV k := by
  cases d with
  | int i => cases e; exact rep_int h
  | str x => cases e; exact rep_str h
  | _ => cases e
section
variable {X : Cx} {C : Ct} {W : WX} {a b e : Expr} {pos : Pos} {f g : Mo D} {s : Stmt}
def mNewB (i : Nat) (b : OB) : MoS := fun ε => some (.nx (ε.set i (.od b)))
theorem st_newK {i : Nat} (hp : ∀ te, PE X (.Dict [] [] pos) te → PS X s (tAsg te (gName i))) : StD X C W s (mNewB i (.dk [])) := by
  refine ⟨_, hp _ pe_dnewK, fun F H σ ε D R q => ?_⟩
  intro p hp0
  obtain ⟨n1, n2, n3⟩ := R.newApart hp0
  exact q F _ _ ((R.loose (.dK []) hp0).setB i upd_same n1 (show RepO X.K F (.dK []) (.dk []) from trivial) n2 n3) (Same.refl F)
theorem st_newT {i : Nat} (hp : ∀ te, PE X (.Dict [] [] pos) te → PS X s (tAsg te (gName i))) : StD X C W s (mNewB i (.dt [])) := by
  refine ⟨_, hp _ pe_dnewT, fun F H σ ε D R q => ?_⟩
  intro p hp0
  obtain ⟨n1, n2, n3⟩ := R.newApart hp0
  exact q F _ _ ((R.loose (.dT []) hp0).setB i upd_same n1 (show RepO X.K F (.dT []) (.dt []) from trivial) n2 n3) (Same.refl F)
/-- what stands in a slot, as a dict with int and text keys -/
def dkAt : Option Ent → Option (List (Key × D))
  | some (.od (.dk qs)) => some qs
  | some (.dat (.dk ks ds)) => some (ks.zip ds)
  | _ => none
theorem dkAt_rep {K : PySem.W.Frag} {C : Ct} {F H : Hp} {σ : St} {ε : List Ent} (R : Rep K C F H σ ε) {i : Nat} {qs : List (Key × D)} (h : dkAt ε[i]? = some qs) : ∃ l kvs, σ[i]? = some (some (.ref l)) ∧ H l = some (.dK kvs) ∧ RepQ K F kvs qs := by
  cases h0 : ε[i]? with
  | none => rw [h0] at h; cases h
  | some e =>
    rw [h0] at h
    cases e with
    | od b =>
      cases b with
      | dk qs' =>
        cases h
        obtain ⟨l, o, q1, q2, q3, q4, q5⟩ := R.ent i _ h0
        cases o with
        | dK kvs => exact ⟨l, kvs, q1, q2, q4⟩
        | _ => exact q4.elim
      | _ => cases h
    | dat d =>
      cases d with
      | dk ks ds =>
        cases h
        obtain ⟨v, q1, q2⟩ := R.ent i _ h0
        cases q2 with
        | dk x1 x2 x3 => exact ⟨_, _, q1, R.fh _ _ x1, RepQ.zip x2 x3⟩
      | _ => cases h
    | _ => cases h
/-- d[k] -/
def mDGet (i : Nat) (f : Mo D) : Mo D := fun ε0 => match dkAt ε0[i]? with
  | none => none
  | some _ => bnd f (fun d ε => match dkAt ε[i]?, keyD d with
    | some qs, some k => (match valQ qs k with
      | some v => some (.ok v ε)
      | none => none)
    | _, _ => none) ε0
theorem ev_dget {i : Nat} (hf : EvD X C W a f) (hp : ∀ ta, PE X a ta → PE X e (tDGet (tVar i) ta)) : EvD X C W e (mDGet i f) := by
  obtain ⟨ta, p1, s1⟩ := hf
  refine ⟨_, hp _ p1, fun F H σ ε Q R q => ?_⟩
  unfold mDGet at q
  cases h0 : dkAt ε[i]? with
  | none => rw [h0] at q; exact q.elim
  | some q0 =>
    rw [h0] at q
    obtain ⟨l, kvs0, a0, _, _⟩ := dkAt_rep R h0
    refine ⟨.ref l, a0, ?_⟩
    refine s1 F H σ ε _ R (q.bind.imp (fun d e q1 v F1 H1 R1 st1 r1 => ?_) fun x e z => z)
    cases h1 : dkAt e[i]? with
    | none => rw [h1] at q1; exact q1.elim
    | some qs =>
      cases h2 : keyD d with
      | none => rw [h1, h2] at q1; exact q1.elim
      | some k =>
        rw [h1, h2] at q1
        dsimp only at q1
        cases h3 : valQ qs k with
        | none => rw [h3] at q1; exact q1.elim
        | some c =>
          rw [h3] at q1
          obtain ⟨l1, kvs, a1, b1, r⟩ := dkAt_rep R1 h1
          rw [a0] at a1
          cases a1
          obtain ⟨w, e1, e2⟩ := r.val h3
          refine ⟨l, w, rfl, ?_, q1 w F1 H1 R1 st1 e2⟩
          rw [keyD_rep r1 h2, ← e1]
          exact DGet.k b1
/-- d[k] = v -/
def mDPut (i : Nat) (fv fk : Mo D) : MoS := mThen fv fun d ε0 => match dkAt ε0[i]? with
  | none => none
  | some _ => mThen fk (fun c ε => match ε[i]?, keyD c with
    | some (.od (.dk qs)), some k => if qs.length < 1000000 then some (.nx (ε.set i (.od (.dk (putQ qs k d))))) else none
    | _, _ => none) ε0
theorem st_dput {i : Nat} {v k : Expr} (hp : ∀ te tk, PE X v te → PE X k tk → PS X s (sDPut (tVar i) tk te)) (hv : EvD X C W v f) (hk : EvD X C W k g) : StD X C W s (mDPut i f g) := by
  obtain ⟨te, p1, s1⟩ := hv
  obtain ⟨tk, p2, s2⟩ := hk
  refine ⟨_, hp _ _ p1 p2, fun F H σ ε D R q => ?_⟩
  refine s1 F H σ ε _ R ((then_good q).imp (fun d e q1 v F1 H1 R1 st1 r1 => ?_) fun x e z => z)
  cases h0 : dkAt e[i]? with
  | none => rw [h0] at q1; exact q1.elim
  | some q0 =>
    rw [h0] at q1
    obtain ⟨l, kvs0, a0, _, _⟩ := dkAt_rep R1 h0
    refine ⟨.ref l, a0, ?_⟩
    refine s2 F1 H1 σ e _ R1 ((then_good (q1.mono st1.ff)).imp (fun c e2 q2 w F2 H2 R2 st2 r2 => ?_) fun x e z => z)
    cases h1 : e2[i]? with
    | none => rw [h1] at q2; exact q2.elim
    | some en =>
      rw [h1] at q2
      cases en with
      | od b =>
        cases b with
        | dk qs =>
          cases h2 : keyD c with
          | none => rw [h2] at q2; exact q2.elim
          | some k =>
            rw [h2] at q2
            dsimp only at q2
            by_cases hl : qs.length < 1000000
            · rw [if_pos hl] at q2
              obtain ⟨l1, o, a1, b1, c1, r, g1⟩ := R2.ent i _ h1
              rw [a0] at a1
              cases a1
              cases o with
              | dK kvs =>
                have r3 : RepQ X.K F2 (putK kvs k v) (putQ qs k d) := RepQ.put r (r1.mono st2.ff)
                have R3 := R2.changeB (o := .dK (putK kvs k v)) (b1 := .dk (putQ qs k d)) h1 rfl a0 r3 ⟨rfl, rfl⟩
                refine ⟨l, _, rfl, ?_, q2 F2 _ σ R3 st2.ff⟩
                rw [keyD_rep r2 h2]
                exact DPut.k b1 (Nat.lt_of_lt_of_le (by rw [RepQ.length r]; exact hl) (by decide))
              | _ => exact r.elim
            · rw [if_neg hl] at q2; exact q2.elim
        | _ => exact q2.elim
      | _ => exact q2.elim
end
end DL

set_option Elab.async false
set_option linter.all false
set_option maxRecDepth 100000
set_option maxHeartbeats 4000000
namespace LW
open PySem PySem.Spec L2 DL
def topS (i : Nat) : Stmt := PySem.Challenge.pw_easelwork_k00_nearest_whole_numbers.main.body.getD i (.Pass ⟨0, 0, 0, 0⟩)
abbrev s_near : Stmt := topS 1
abbrev N_near : List Str := ["n"]
theorem sc_near : FnScope N_near ["n"] (defScope s_near) := ⟨rfl, rfl, rfl, by decide +kernel, rfl, by decide +kernel, by decide +kernel⟩
abbrev s_mul : Stmt := topS 2
abbrev N_mul : List Str := ["x", "y"]
theorem sc_mul : FnScope N_mul ["x", "y"] (defScope s_mul) := ⟨rfl, rfl, rfl, by decide +kernel, rfl, by decide +kernel, by decide +kernel⟩
abbrev s_mix : Stmt := topS 3
abbrev N_mix : List Str := ["d", "f", "k"]
theorem sc_mix : FnScope N_mix ["d", "f", "k"] (defScope s_mix) := ⟨rfl, rfl, rfl, by decide +kernel, rfl, by decide +kernel, by decide +kernel⟩
abbrev s_hold : Stmt := topS 4
abbrev N_hold : List Str := ["v", "low", "high"]
theorem sc_hold : FnScope N_hold ["v", "low", "high"] (defScope s_hold) := ⟨rfl, rfl, rfl, by decide +kernel, rfl, by decide +kernel, by decide +kernel⟩
abbrev s_straight : Stmt := topS 5
abbrev N_straight : List Str := ["c", "a"]
theorem sc_straight : FnScope N_straight ["c", "a"] (defScope s_straight) := ⟨rfl, rfl, rfl, by decide +kernel, rfl, by decide +kernel, by decide +kernel⟩
abbrev s_mean : Stmt := topS 6
abbrev N_mean : List Str := ["total", "count"]
theorem sc_mean : FnScope N_mean ["total", "count"] (defScope s_mean) := ⟨rfl, rfl, rfl, by decide +kernel, rfl, by decide +kernel, by decide +kernel⟩
abbrev s_law_cell : Stmt := topS 8
abbrev N_law_cell : List Str := ["script", "k"]
theorem sc_law_cell : FnScope N_law_cell ["script", "k"] (defScope s_law_cell) := ⟨rfl, rfl, rfl, by decide +kernel, rfl, by decide +kernel, by decide +kernel⟩
abbrev s_law_menu : Stmt := topS 9
abbrev N_law_menu : List Str := ["cell", "rows", "many"]
theorem sc_law_menu : FnScope N_law_menu ["cell", "rows", "many"] (defScope s_law_menu) := ⟨rfl, rfl, rfl, by decide +kernel, rfl, by decide +kernel, by decide +kernel⟩
abbrev s_law_whole : Stmt := topS 10
abbrev N_law_whole : List Str := ["got"]
theorem sc_law_whole : FnScope N_law_whole ["got"] (defScope s_law_whole) := ⟨rfl, rfl, rfl, by decide +kernel, rfl, by decide +kernel, by decide +kernel⟩
abbrev s_law_is : Stmt := topS 11
abbrev N_law_is : List Str := ["got", "due"]
theorem sc_law_is : FnScope N_law_is ["got", "due"] (defScope s_law_is) := ⟨rfl, rfl, rfl, by decide +kernel, rfl, by decide +kernel, by decide +kernel⟩
abbrev s_law_nearest : Stmt := topS 12
abbrev N_law_nearest : List Str := ["got", "n"]
theorem sc_law_nearest : FnScope N_law_nearest ["got", "n"] (defScope s_law_nearest) := ⟨rfl, rfl, rfl, by decide +kernel, rfl, by decide +kernel, by decide +kernel⟩
abbrev s_law_rounded : Stmt := topS 13
abbrev N_law_rounded : List Str := ["got", "total", "count"]
theorem sc_law_rounded : FnScope N_law_rounded ["got", "total", "count"] (defScope s_law_rounded) := ⟨rfl, rfl, rfl, by decide +kernel, rfl, by decide +kernel, by decide +kernel⟩
abbrev s_law_nears : Stmt := topS 14
abbrev N_law_nears : List Str := ["n", "m", "cell", "rest", "got", "after", "base"]
theorem sc_law_nears : FnScope N_law_nears ["n", "m", "cell"] (defScope s_law_nears) := ⟨rfl, rfl, rfl, by decide +kernel, rfl, by decide +kernel, by decide +kernel⟩
abbrev s_law_products : Stmt := topS 15
abbrev N_law_products : List Str := ["x", "y", "d", "f", "k", "share", "got"]
theorem sc_law_products : FnScope N_law_products ["x", "y", "d", "f", "k", "share"] (defScope s_law_products) := ⟨rfl, rfl, rfl, by decide +kernel, rfl, by decide +kernel, by decide +kernel⟩
abbrev s_law_quotients : Stmt := topS 16
abbrev N_law_quotients : List Str := ["total", "count", "t", "cell", "rest"]
theorem sc_law_quotients : FnScope N_law_quotients ["total", "count", "t", "cell"] (defScope s_law_quotients) := ⟨rfl, rfl, rfl, by decide +kernel, rfl, by decide +kernel, by decide +kernel⟩
abbrev s_law_straights : Stmt := topS 17
abbrev N_law_straights : List Str := ["c", "a", "size", "got"]
theorem sc_law_straights : FnScope N_law_straights ["c", "a"] (defScope s_law_straights) := ⟨rfl, rfl, rfl, by decide +kernel, rfl, by decide +kernel, by decide +kernel⟩
abbrev s_law_holds : Stmt := topS 18
abbrev N_law_holds : List Str := ["v", "low", "high", "at"]
theorem sc_law_holds : FnScope N_law_holds ["v", "low", "high"] (defScope s_law_holds) := ⟨rfl, rfl, rfl, by decide +kernel, rfl, by decide +kernel, by decide +kernel⟩
abbrev s_law : Stmt := topS 19
abbrev N_law : List Str := ["script", "row", "share", "k"]
theorem sc_law : FnScope N_law ["script"] (defScope s_law) := ⟨rfl, rfl, rfl, by decide +kernel, rfl, by decide +kernel, by decide +kernel⟩
structure Txt (P : Program) (w : World) (K : PySem.W.Frag) (mg : Str → Option Value) where
  S : SeerK K
  hP : P.given.tree = none
  f_near : Addr
  d_near : FuncData
  F_near : Fun K "near" "near" s_near f_near d_near
  m_near : mg "near" = some (.ref f_near)
  b_near : Binds K d_near ["n"] []
  f_mul : Addr
  d_mul : FuncData
  F_mul : Fun K "mul" "mul" s_mul f_mul d_mul
  m_mul : mg "mul" = some (.ref f_mul)
  b_mul : Binds K d_mul ["x", "y"] []
  f_mix : Addr
  d_mix : FuncData
  F_mix : Fun K "mix" "mix" s_mix f_mix d_mix
  m_mix : mg "mix" = some (.ref f_mix)
  b_mix : Binds K d_mix ["d", "f", "k"] []
  f_hold : Addr
  d_hold : FuncData
  F_hold : Fun K "hold" "hold" s_hold f_hold d_hold
  m_hold : mg "hold" = some (.ref f_hold)
  b_hold : Binds K d_hold ["v", "low", "high"] []
  f_straight : Addr
  d_straight : FuncData
  F_straight : Fun K "straight" "straight" s_straight f_straight d_straight
  m_straight : mg "straight" = some (.ref f_straight)
  b_straight : Binds K d_straight ["c", "a"] []
  f_mean : Addr
  d_mean : FuncData
  F_mean : Fun K "mean" "mean" s_mean f_mean d_mean
  m_mean : mg "mean" = some (.ref f_mean)
  b_mean : Binds K d_mean ["total", "count"] []
  f_law_cell : Addr
  d_law_cell : FuncData
  F_law_cell : Fun K "_law_cell" "_law_cell" s_law_cell f_law_cell d_law_cell
  m_law_cell : mg "_law_cell" = some (.ref f_law_cell)
  b_law_cell : Binds K d_law_cell ["script", "k"] []
  f_law_menu : Addr
  d_law_menu : FuncData
  F_law_menu : Fun K "_law_menu" "_law_menu" s_law_menu f_law_menu d_law_menu
  m_law_menu : mg "_law_menu" = some (.ref f_law_menu)
  b_law_menu : Binds K d_law_menu ["cell", "rows", "many"] []
  f_law_whole : Addr
  d_law_whole : FuncData
  F_law_whole : Fun K "_law_whole" "_law_whole" s_law_whole f_law_whole d_law_whole
  m_law_whole : mg "_law_whole" = some (.ref f_law_whole)
  b_law_whole : Binds K d_law_whole ["got"] []
  f_law_is : Addr
  d_law_is : FuncData
  F_law_is : Fun K "_law_is" "_law_is" s_law_is f_law_is d_law_is
  m_law_is : mg "_law_is" = some (.ref f_law_is)
  b_law_is : Binds K d_law_is ["got", "due"] []
  f_law_nearest : Addr
  d_law_nearest : FuncData
  F_law_nearest : Fun K "_law_nearest" "_law_nearest" s_law_nearest f_law_nearest d_law_nearest
  m_law_nearest : mg "_law_nearest" = some (.ref f_law_nearest)
  b_law_nearest : Binds K d_law_nearest ["got", "n"] []
  f_law_rounded : Addr
  d_law_rounded : FuncData
  F_law_rounded : Fun K "_law_rounded" "_law_rounded" s_law_rounded f_law_rounded d_law_rounded
  m_law_rounded : mg "_law_rounded" = some (.ref f_law_rounded)
  b_law_rounded : Binds K d_law_rounded ["got", "total", "count"] []
  f_law_nears : Addr
  d_law_nears : FuncData
  F_law_nears : Fun K "_law_nears" "_law_nears" s_law_nears f_law_nears d_law_nears
  m_law_nears : mg "_law_nears" = some (.ref f_law_nears)
  b_law_nears : Binds K d_law_nears ["n", "m", "cell"] []
  f_law_products : Addr
  d_law_products : FuncData
  F_law_products : Fun K "_law_products" "_law_products" s_law_products f_law_products d_law_products
  m_law_products : mg "_law_products" = some (.ref f_law_products)
  b_law_products : Binds K d_law_products ["x", "y", "d", "f", "k", "share"] []
  f_law_quotients : Addr
  d_law_quotients : FuncData
  F_law_quotients : Fun K "_law_quotients" "_law_quotients" s_law_quotients f_law_quotients d_law_quotients
  m_law_quotients : mg "_law_quotients" = some (.ref f_law_quotients)
  b_law_quotients : Binds K d_law_quotients ["total", "count", "t", "cell"] []
  f_law_straights : Addr
  d_law_straights : FuncData
  F_law_straights : Fun K "_law_straights" "_law_straights" s_law_straights f_law_straights d_law_straights
  m_law_straights : mg "_law_straights" = some (.ref f_law_straights)
  b_law_straights : Binds K d_law_straights ["c", "a"] []
  f_law_holds : Addr
  d_law_holds : FuncData
  F_law_holds : Fun K "_law_holds" "_law_holds" s_law_holds f_law_holds d_law_holds
  m_law_holds : mg "_law_holds" = some (.ref f_law_holds)
  b_law_holds : Binds K d_law_holds ["v", "low", "high"] []
  f_law : Addr
  d_law : FuncData
  F_law : Fun K "law" "law" s_law f_law d_law
  m_law : mg "law" = some (.ref f_law)
  b_law : Binds K d_law ["script"] []
  z_abs : mg "abs" = none
  z_bool : mg "bool" = none
  z_int : mg "int" = none
  z_isinstance : mg "isinstance" = none
  z_len : mg "len" = none
  z_max : mg "max" = none
  z_min : mg "min" = none
  z_range : mg "range" = none
  z_sorted : mg "sorted" = none
def absI (x : Int) : Int := if x < 0 then -x else x
theorem absI_nn (x : Int) : 0 ≤ absI x := by unfold absI; split <;> omega
theorem cx_no (P : Program) (w : World) (H : Hp) (s : Shared) (e : Value) (s' : Shared) (h : L2.CX P w [] H s (fun _ _ _ => False) e s') : False := by
  obtain ⟨_, _, _, _, _, _, _, _, _, _, _, _, z⟩ := h; exact z
theorem hu64 {k : Nat} {A : Around} (h : Room k A) : A.units + 64 < cLine := by have := h.un; omega
theorem ok_none {P : Program} {w : World} {K : PySem.W.Frag} {mg : Str → Option Value} {base : Heap} {CX : CXT} {k n : Nat} {f : Addr} {fd : FuncData} {ps : List Str} (hl : ps.length = n) : FnOk P w K mg base CX k f fd ps (SpP K n fun _ => none) where
  len := fun vs H Q E h => h.1.trans hl.symm
  run := fun _ _ _ _ _ _ _ _ _ _ _ _ _ h => by obtain ⟨_, _, _, _, _, h⟩ := h; exact h.elim
theorem rep_ints_c {K : PySem.W.Frag} {F : Hp} {a : Addr} {od : Option Addr} {sl : Array (Option Value)} {n : Nat} {its : Array Value} (vs : List Int) (lc : K.lookup a = some ⟨.type "tuple", od, .seq its n, sl⟩) (hs : its.size ≤ sizeLine) (hv : Vals (vs.map V.int) its.toList) : RepD K F (.ref a) (.tup (vs.map D.int)) := .tup (.inr ⟨_, its, n, lc, rfl, rfl, hs, hv⟩) (RepL.of_ints vs)
theorem repL_strs {K : PySem.W.Frag} {F : Hp} : ∀ vs : List Str, RepL K F (vs.map V.str) (vs.map D.str)
  | [] => .nil
  | _ :: r => .cons (.str _) (repL_strs r)
theorem rep_strs_c {K : PySem.W.Frag} {F : Hp} {a : Addr} {od : Option Addr} {sl : Array (Option Value)} {n : Nat} {its : Array Value} (vs : List Str) (lc : K.lookup a = some ⟨.type "tuple", od, .seq its n, sl⟩) (hs : its.size ≤ sizeLine) (hv : Vals (vs.map V.str) its.toList) : RepD K F (.ref a) (.tup (vs.map D.str)) := .tup (.inr ⟨_, its, n, lc, rfl, rfl, hs, hv⟩) (repL_strs vs)
theorem for_step {i : Nat} {body : MoS} {d : D} {r : List D} {ε ε' : List Ent} (h : body (ε.set i (.dat d)) = some (.nx ε')) : forGo (gdName i) body (d :: r) ε = forGo (gdName i) body r ε' := by
  show (match body (ε.set i (.dat d)) with | some (.nx e1) => forGo (gdName i) body r e1 | some (.ct e1) => forGo (gdName i) body r e1 | some (.bk e1) => some (.nx e1) | q => q) = _
  rw [h]
theorem for_ret {i : Nat} {body : MoS} {d v : D} {r : List D} {ε ε' : List Ent} (h : body (ε.set i (.dat d)) = some (.rt v ε')) : forGo (gdName i) body (d :: r) ε = some (.rt v ε') := by
  show (match body (ε.set i (.dat d)) with | some (.nx e1) => forGo (gdName i) body r e1 | some (.ct e1) => forGo (gdName i) body r e1 | some (.bk e1) => some (.nx e1) | q => q) = _
  rw [h]
theorem rangeD_ints (n : Nat) : rangeD 0 n = ((List.range n).map fun k : Nat => (k : Int)).map D.int := by
  unfold rangeD
  rw [List.map_map]
  apply List.map_congr_left
  intro k _
  show D.int (0 + (k : Int)) = D.int (k : Int)
  rw [Int.zero_add]
theorem rangeD_len (lo : Int) (n : Nat) : (rangeD lo n).length = n := by unfold rangeD; rw [List.length_map, List.length_range]
theorem seq_nx {m m2 : MoS} {ε ε' : List Ent} (h : m ε = some (.nx ε')) : mSeq m m2 ε = m2 ε' := by unfold mSeq; rw [h]
theorem rng_nat (n : Nat) (h : n ≤ 1000000) : rng1 [.int (n : Int)] = some (rangeD 0 n) := by
  unfold rng1
  dsimp only
  rw [if_pos (inR_mk (by omega) (by omega))]
  rfl
theorem rng1_run {ε ε' : List Ent} {ds es : List D} {f : Mo (List D)} (h1 : f ε = some (.ok ds ε')) (h : rng1 ds = some es) : (bnd f fun ds => lft (rng1 ds)) ε = some (.ok es ε') := by
  unfold bnd lft
  rw [h1]
  dsimp only
  rw [h]
theorem for_run {fi : Mo (List D)} {t : Tg} {body : MoS} {ε ε' : List Ent} {ds : List D} (h : fi ε = some (.ok ds ε')) : mFor fi t body ε = forGo t body ds ε' := by
  unfold mFor mThen
  rw [h]
theorem runO_go {n : Nat} {g : MoS} {ds rs : List D} {ε ε' : List Ent} (h0 : env0 n ds = ε) (h : g ε = some (.ro rs ε')) : runO n g ds = some rs := by
  unfold runO
  rw [h0, h]
theorem seq_rt {m m2 : MoS} {v : D} {ε ε' : List Ent} (h : m ε = some (.rt v ε')) : mSeq m m2 ε = some (.rt v ε') := by unfold mSeq; rw [h]
theorem runQ_go {n : Nat} {g : MoS} {ps ds qs : List D} {d : D} {ε es : List Ent} (h0 : envQ n ps ds = ε) (h : g ε = some (.rt d (.io qs :: es))) : runQ n g ps ds = some (.ret d, qs) := by
  unfold runQ
  rw [h0, h]
  rfl
section
variable {P : Program} {w : World} {K : PySem.W.Frag} {mg : Str → Option Value} {base : Heap}
def g_near : MoS := (mRet (mOp gDiv (mOp gAdd (mVar 0) (pur (.int 127))) (pur (.int 255))))
def m_near : List D → Option Ans := runP 1 g_near
theorem ok_near (T : Txt P w K mg) : FnOk P w K mg base (CXX P w) 1 T.f_near T.d_near ["n"] (SpP K 1 m_near) := by
  exact fn_P (g := g_near) T.F_near sc_near (fun cdv A outer s H E C hA hr tk => (ss_one (st_ret (ev_div (ev_add (ev_var 0 (pv 0)) ev_int) ev_int)))) (fun _ _ _ h => h)
def g_mul : MoS := (mRet (mFn 1 m_near (mCons (mOp gMul (mVar 0) (mVar 1)) (pur []))))
def m_mul : List D → Option Ans := runP 2 g_mul
theorem ok_mul (T : Txt P w K mg) : FnOk P w K mg base (CXX P w) 2 T.f_mul T.d_mul ["x", "y"] (SpP K 2 m_mul) := by
  exact fn_P (g := g_mul) T.F_mul sc_mul (fun cdv A outer s H E C hA hr tk => (ss_one (st_ret (cl_fn (ok_near T) tk hr (by rfl) T.m_near T.F_near.kp T.b_near (ea_cons (ev_mul (ev_var 0 (pv 0)) (ev_var 1 (pv 1))) ea_nil))))) (fun _ _ _ h => h)
def g_mix : MoS := (mRet (mFn 1 m_near (mCons (mOp gAdd (mOp gMul (mVar 0) (mOp DL.gSub (pur (.int 255)) (mVar 2))) (mOp gMul (mVar 1) (mVar 2))) (pur []))))
def m_mix : List D → Option Ans := runP 3 g_mix
theorem ok_mix (T : Txt P w K mg) : FnOk P w K mg base (CXX P w) 2 T.f_mix T.d_mix ["d", "f", "k"] (SpP K 3 m_mix) := by
  exact fn_P (g := g_mix) T.F_mix sc_mix (fun cdv A outer s H E C hA hr tk => (ss_one (st_ret (cl_fn (ok_near T) tk hr (by rfl) T.m_near T.F_near.kp T.b_near (ea_cons (ev_add (ev_mul (ev_var 0 (pv 0)) (ev_sub ev_int (ev_var 2 (pv 2)))) (ev_mul (ev_var 1 (pv 1)) (ev_var 2 (pv 2)))) ea_nil))))) (fun _ _ _ h => h)
def g_hold : MoS := (mSeq (mIfS (mB (mOp gLt (mVar 0) (mVar 1))) (mRet (mVar 1)) mNil)
  (mSeq (mIfS (mB (mOp gGt (mVar 0) (mVar 2))) (mRet (mVar 2)) mNil)
  (mRet (mVar 0))))
def m_hold : List D → Option Ans := runP 3 g_hold
theorem ok_hold (T : Txt P w K mg) : FnOk P w K mg base (CXX P w) 1 T.f_hold T.d_hold ["v", "low", "high"] (SpP K 3 m_hold) := by
  exact fn_P (g := g_hold) T.F_hold sc_hold (fun cdv A outer s H E C hA hr tk => (ss_cons (st_if (te_cmp op_lt (nomark _) (vop_I0 fun _ _ _ => .bl _) (ev_var 0 (pv 0)) (ev_var 1 (pv 1))) (ss_one (st_ret (ev_var 1 (pv 1)))) ss_nil)
      (ss_cons (st_if (te_cmp op_gt (nomark _) (vop_I0 fun _ _ _ => .bl _) (ev_var 0 (pv 0)) (ev_var 2 (pv 2))) (ss_one (st_ret (ev_var 2 (pv 2)))) ss_nil)
      (ss_one (st_ret (ev_var 0 (pv 0))))))) (fun _ _ _ h => h)
def g_straight : MoS := (mSeq (mIfS (mB (mOp gGt (mVar 1) (pur (.int 0)))) (mRet (mOp gDivP (mOp gAdd (mOp gMul (pur (.int 510)) (mVar 0)) (mVar 1)) (mOp gMul (pur (.int 2)) (mVar 1)))) mNil)
  (mRet (pur (.int 0))))
def m_straight : List D → Option Ans := runP 2 g_straight
theorem ok_straight (T : Txt P w K mg) : FnOk P w K mg base (CXX P w) 33 T.f_straight T.d_straight ["c", "a"] (SpP K 2 m_straight) := by
  exact fn_P (g := g_straight) T.F_straight sc_straight (fun cdv A outer s H E C hA hr tk => (ss_cons (st_if (te_cmp op_gt (nomark _) (vop_I0 fun _ _ _ => .bl _) (ev_var 1 (pv 1)) ev_int) (ss_one (st_ret (ev_divP (seer_cx T.S T.hP hr (by decide) rfl rfl) (ev_add (ev_mul ev_int (ev_var 0 (pv 0))) (ev_var 1 (pv 1))) (ev_mul ev_int (ev_var 1 (pv 1)))))) ss_nil)
      (ss_one (st_ret ev_int)))) (fun _ _ _ h => h)
def g_mean : MoS := (mRet (mOp gDivP (mOp gAdd (mOp gMul (pur (.int 2)) (mVar 0)) (mVar 1)) (mOp gMul (pur (.int 2)) (mVar 1))))
def m_mean : List D → Option Ans := runP 2 g_mean
theorem ok_mean (T : Txt P w K mg) : FnOk P w K mg base (CXX P w) 33 T.f_mean T.d_mean ["total", "count"] (SpP K 2 m_mean) := by
  exact fn_P (g := g_mean) T.F_mean sc_mean (fun cdv A outer s H E C hA hr tk => (ss_one (st_ret (ev_divP (seer_cx T.S T.hP hr (by decide) rfl rfl) (ev_add (ev_mul ev_int (ev_var 0 (pv 0))) (ev_var 1 (pv 1))) (ev_mul ev_int (ev_var 1 (pv 1))))))) (fun _ _ _ h => h)
def g_law_cell : MoS := (mSeq (mIfS (mB (mOp gLt (mVar 1) (mLenN 0))) (mRet (mCall (gOne gInt) (mCons (mOp gIx (mVar 0) (mVar 1)) (pur [])))) mNil)
  (mRet (pur (.int 0))))
def m_law_cell : List D → Option Ans := runP 2 g_law_cell
theorem ok_law_cell (T : Txt P w K mg) : FnOk P w K mg base (CXX P w) 1 T.f_law_cell T.d_law_cell ["script", "k"] (SpP K 2 m_law_cell) := by
  exact fn_P (g := g_law_cell) T.F_law_cell sc_law_cell (fun cdv A outer s H E C hA hr tk => (ss_cons (st_if (te_cmp op_lt (nomark _) (vop_I0 fun _ _ _ => .bl _) (ev_var 1 (pv 1)) (ev_lenN (i := 0) (pe_callB call_len (by rfl) T.z_len PySem.boot_len (pa_cons (pv 0) pa_nil)))) (ss_one (st_ret (ev_cb vc_int (ea_cons (ev_item (fun _ _ => rfl) (ev_var 0 (pv 0)) (ev_var 1 (pv 1))) ea_nil) fun _ p => pe_callTy call_int1 (by rfl) T.z_int (by decide +kernel) p))) ss_nil)
      (ss_one (st_ret ev_int)))) (fun _ _ _ h => h)
def cellOf (ns : List Int) (k : Nat) : Int := (ns[k]?).getD 0
theorem r_cell (ns : List Int) (k : Nat) : m_law_cell [.rdl (ns.map D.int), .int (k : Int)] = some (.ret (.int (cellOf ns k))) := by
  unfold cellOf
  by_cases hk : k < ns.length
  · have h1 : atI (ns.map D.int) (k : Int) = some (.int ns[k]) := atI_nat (by rw [List.getElem?_map, List.getElem?_eq_getElem hk]; rfl)
    have h2 : (k : Int) < (ns.length : Int) := by omega
    simp [m_law_cell, g_law_cell, runP, runO, runQ, ansOf, outQ, env0, envQ, mSeq, mNil, mRet, mRetO, mRetOwn, mRetN, mSet, mSetO, mAsg, mIfS, mThen, mDrop, mApp, mPut, mFor, forGo, mAug, mFn, mFnO, mFnQ, bnd, pur, lft, mCons, mVar, mOp, mUn, mTup, mLst, mLstO, mB, asB, mNot, mAnd, mOr, mAndV, mOrV, mNotV, mIf, mChain, mCall, ansM, mPop, mLenN, mItemN, mSl, mSlO, mCatO, mListO, mListRev, mFz, mLc, lcGo, wipeE, backE, gdName, gdTup, setL, Ent.get, Ent.put, gLen, gOne, gTwo, gI, gAdd, DL.gSub, gMul, gDiv, gMod, gPow, gLt, gLe, gGt, gGe, gNeg, gEqS, gNeS, gIsN, gInt, gAbs, gMin2, gMax2, gStr, gTuple, gList, gIx, seqOf, lstOf, tupOf, asI, rng1, rng2, gSlL, gSlT, gCatS, gCatL, gCatT, tyName, mTruth, gTruth, mDct, intKeys, gKd, gUpper, gdLst, mNewB, mDGet, mDPut, dkAt, keyD, h1, h2, hk]
  · have h2 : ¬ (k : Int) < (ns.length : Int) := by omega
    simp [m_law_cell, g_law_cell, runP, runO, runQ, ansOf, outQ, env0, envQ, mSeq, mNil, mRet, mRetO, mRetOwn, mRetN, mSet, mSetO, mAsg, mIfS, mThen, mDrop, mApp, mPut, mFor, forGo, mAug, mFn, mFnO, mFnQ, bnd, pur, lft, mCons, mVar, mOp, mUn, mTup, mLst, mLstO, mB, asB, mNot, mAnd, mOr, mAndV, mOrV, mNotV, mIf, mChain, mCall, ansM, mPop, mLenN, mItemN, mSl, mSlO, mCatO, mListO, mListRev, mFz, mLc, lcGo, wipeE, backE, gdName, gdTup, setL, Ent.get, Ent.put, gLen, gOne, gTwo, gI, gAdd, DL.gSub, gMul, gDiv, gMod, gPow, gLt, gLe, gGt, gGe, gNeg, gEqS, gNeS, gIsN, gInt, gAbs, gMin2, gMax2, gStr, gTuple, gList, gIx, seqOf, lstOf, tupOf, asI, rng1, rng2, gSlL, gSlT, gCatS, gCatL, gCatT, tyName, mTruth, gTruth, mDct, intKeys, gKd, gUpper, gdLst, mNewB, mDGet, mDPut, dkAt, keyD, h2, List.getElem?_eq_none (Nat.le_of_not_lt hk)]
def g_law_menu : MoS := (mSeq (mIfS (mB (mOp gEqS (mOp gMod (mCall (gOne gInt) (mCons (mVar 0) (pur []))) (pur (.int 3))) (pur (.int 0)))) (mRet (mOp gIx (mVar 1) (mOp gMod (mCall (gOne gInt) (mCons (mOp gDiv (mVar 0) (pur (.int 3))) (pur []))) (mLenN 1)))) mNil)
  (mRet (mOp gMod (mCall (gOne gInt) (mCons (mOp gDiv (mVar 0) (pur (.int 3))) (pur []))) (mVar 2))))
def m_law_menu : List D → Option Ans := runP 3 g_law_menu
theorem ok_law_menu (T : Txt P w K mg) : FnOk P w K mg base (CXX P w) 1 T.f_law_menu T.d_law_menu ["cell", "rows", "many"] (SpP K 3 m_law_menu) := by
  exact fn_P (g := g_law_menu) T.F_law_menu sc_law_menu (fun cdv A outer s H E C hA hr tk => (ss_cons (st_if (te_cmp op_eq (nomark _) vop_eqS (ev_mod (ev_cb vc_int (ea_cons (ev_var 0 (pv 0)) ea_nil) fun _ p => pe_callTy call_int1 (by rfl) T.z_int (by decide +kernel) p) ev_int) ev_int) (ss_one (st_ret (ev_item (fun _ _ => rfl) (ev_var 1 (pv 1)) (ev_mod (ev_cb vc_int (ea_cons (ev_div (ev_var 0 (pv 0)) ev_int) ea_nil) fun _ p => pe_callTy call_int1 (by rfl) T.z_int (by decide +kernel) p) (ev_lenN (i := 1) (pe_callB call_len (by rfl) T.z_len PySem.boot_len (pa_cons (pv 1) pa_nil))))))) ss_nil)
      (ss_one (st_ret (ev_mod (ev_cb vc_int (ea_cons (ev_div (ev_var 0 (pv 0)) ev_int) ea_nil) fun _ p => pe_callTy call_int1 (by rfl) T.z_int (by decide +kernel) p) (ev_var 2 (pv 2))))))) (fun _ _ _ h => h)
def g_law_whole : MoS := (mRet (mAndV (mCall gIsi (mCons (mVar 0) (mCons (pur (.rf (.ty "int"))) (pur [])))) (mNotV (mCall gIsi (mCons (mVar 0) (mCons (pur (.rf (.ty "bool"))) (pur [])))))))
def m_law_whole : List D → Option Ans := runP 1 g_law_whole
theorem ok_law_whole (T : Txt P w K mg) : FnOk P w K mg base (CXX P w) 1 T.f_law_whole T.d_law_whole ["got"] (SpP K 1 m_law_whole) := by
  exact fn_P (g := g_law_whole) T.F_law_whole sc_law_whole (fun cdv A outer s H E C hA hr tk => (ss_one (st_ret (ev_and (ev_cb vc_isi (ea_cons (ev_var 0 (pv 0)) (ea_cons (ev_c (d := .rf (.ty "int")) (pe_bltn (v := .ty "int") (by rfl) T.z_int (by decide +kernel) rfl) (fun _ _ => .rf _)) ea_nil)) fun _ p => pe_callB call_isi (by rfl) T.z_isinstance (by decide +kernel) p) (ev_one (ev_not (ev_cb vc_isi (ea_cons (ev_var 0 (pv 0)) (ea_cons (ev_c (d := .rf (.ty "bool")) (pe_bltn (v := .ty "bool") (by rfl) T.z_bool (by decide +kernel) rfl) (fun _ _ => .rf _)) ea_nil)) fun _ p => pe_callB call_isi (by rfl) T.z_isinstance (by decide +kernel) p))))))) (fun _ _ _ h => h)
def g_law_is : MoS := (mRet (mAndV (mFn 1 m_law_whole (mCons (mVar 0) (pur []))) (mOp gEqS (mVar 0) (mVar 1))))
def m_law_is : List D → Option Ans := runP 2 g_law_is
theorem ok_law_is (T : Txt P w K mg) : FnOk P w K mg base (CXX P w) 2 T.f_law_is T.d_law_is ["got", "due"] (SpP K 2 m_law_is) := by
  exact fn_P (g := g_law_is) T.F_law_is sc_law_is (fun cdv A outer s H E C hA hr tk => (ss_one (st_ret (ev_and (cl_fn (ok_law_whole T) tk hr (by rfl) T.m_law_whole T.F_law_whole.kp T.b_law_whole (ea_cons (ev_var 0 (pv 0)) ea_nil)) (ev_one (ev_eqS (ev_var 0 (pv 0)) (ev_var 1 (pv 1)))))))) (fun _ _ _ h => h)
def g_law_nearest : MoS := (mRet (mAndV (mFn 1 m_law_whole (mCons (mVar 0) (pur []))) (mChain gLe gLe (mUn gNeg (pur (.int 127))) (mOp DL.gSub (mOp gMul (pur (.int 255)) (mVar 0)) (mVar 1)) (pur (.int 127)))))
def m_law_nearest : List D → Option Ans := runP 2 g_law_nearest
theorem ok_law_nearest (T : Txt P w K mg) : FnOk P w K mg base (CXX P w) 2 T.f_law_nearest T.d_law_nearest ["got", "n"] (SpP K 2 m_law_nearest) := by
  exact fn_P (g := g_law_nearest) T.F_law_nearest sc_law_nearest (fun cdv A outer s H E C hA hr tk => (ss_one (st_ret (ev_and (cl_fn (ok_law_whole T) tk hr (by rfl) T.m_law_whole T.F_law_whole.kp T.b_law_whole (ea_cons (ev_var 0 (pv 0)) ea_nil)) (ev_one (ev_chain op_le op_le (vop_I0 fun _ _ _ => .bl _) (vop_I0 fun _ _ _ => .bl _) (ev_neg ev_int) (ev_sub (ev_mul ev_int (ev_var 0 (pv 0))) (ev_var 1 (pv 1))) ev_int fun _ _ _ p q r => pe_chain op_le op_le p q r)))))) (fun _ _ _ h => h)
def g_law_rounded : MoS := (mRet (mAndV (mFn 1 m_law_whole (mCons (mVar 0) (pur []))) (mChain gLe gLt (mOp gMul (mOp gMul (pur (.int 2)) (mVar 2)) (mVar 0)) (mOp gAdd (mOp gMul (pur (.int 2)) (mVar 1)) (mVar 2)) (mOp gAdd (mOp gMul (mOp gMul (pur (.int 2)) (mVar 2)) (mVar 0)) (mOp gMul (pur (.int 2)) (mVar 2))))))
def m_law_rounded : List D → Option Ans := runP 3 g_law_rounded
theorem ok_law_rounded (T : Txt P w K mg) : FnOk P w K mg base (CXX P w) 2 T.f_law_rounded T.d_law_rounded ["got", "total", "count"] (SpP K 3 m_law_rounded) := by
  exact fn_P (g := g_law_rounded) T.F_law_rounded sc_law_rounded (fun cdv A outer s H E C hA hr tk => (ss_one (st_ret (ev_and (cl_fn (ok_law_whole T) tk hr (by rfl) T.m_law_whole T.F_law_whole.kp T.b_law_whole (ea_cons (ev_var 0 (pv 0)) ea_nil)) (ev_one (ev_chain op_le op_lt (vop_I0 fun _ _ _ => .bl _) (vop_I0 fun _ _ _ => .bl _) (ev_mul (ev_mul ev_int (ev_var 2 (pv 2))) (ev_var 0 (pv 0))) (ev_add (ev_mul ev_int (ev_var 1 (pv 1))) (ev_var 2 (pv 2))) (ev_add (ev_mul (ev_mul ev_int (ev_var 2 (pv 2))) (ev_var 0 (pv 0))) (ev_mul ev_int (ev_var 2 (pv 2)))) fun _ _ _ p q r => pe_chain op_le op_lt p q r)))))) (fun _ _ _ h => h)
def g_law_nears : MoS := (mSeq (mSet 3 (mFn 3 m_law_menu (mCons (mVar 2) (mCons (mLst (mCons (pur (.int 127)) (mCons (pur (.int 128)) (mCons (pur (.int 126)) (mCons (pur (.int 129)) (mCons (pur (.int 0)) (mCons (pur (.int 254)) (pur [])))))))) (mCons (pur (.int 255)) (pur []))))))
  (mSeq (mSet 4 (mFn 1 m_near (mCons (mVar 0) (pur []))))
  (mSeq (mSet 5 (mFn 1 m_near (mCons (mOp gAdd (mVar 0) (pur (.int 1))) (pur []))))
  (mSeq (mSet 6 (mFn 1 m_near (mCons (mVar 1) (pur []))))
  (mSeq (mIfS (mOr (mNot (mB (mFn 2 m_law_nearest (mCons (mVar 4) (mCons (mVar 0) (pur [])))))) (mOr (mNot (mB (mFn 2 m_law_nearest (mCons (mVar 5) (mCons (mOp gAdd (mVar 0) (pur (.int 1))) (pur [])))))) (mNot (mB (mFn 2 m_law_nearest (mCons (mVar 6) (mCons (mVar 1) (pur [])))))))) (mRet (pur (.bl false))) mNil)
  (mSeq (mIfS (mOr (mB (mOp (gIn true) (mOp DL.gSub (mVar 5) (mVar 4)) (mTup (mCons (pur (.int 0)) (mCons (pur (.int 1)) (pur [])))))) (mOr (mNot (mB (mFn 2 m_law_is (mCons (mFn 1 m_near (mCons (mOp gMul (pur (.int 255)) (mVar 0)) (pur []))) (mCons (mVar 0) (pur [])))))) (mNot (mB (mFn 2 m_law_is (mCons (mFn 1 m_near (mCons (mOp gAdd (mOp gMul (pur (.int 255)) (mVar 0)) (mVar 1)) (pur []))) (mCons (mOp gAdd (mVar 0) (mVar 6)) (pur [])))))))) (mRet (pur (.bl false))) mNil)
  (mRet (mFn 2 m_law_is (mCons (mFn 1 m_near (mCons (mOp gAdd (mOp gMul (pur (.int 255)) (mVar 0)) (mVar 3)) (pur []))) (mCons (mOp gAdd (mVar 0) (mCall (gOne gInt) (mCons (mOp gGt (mVar 3) (pur (.int 127))) (pur [])))) (pur [])))))))))))
def m_law_nears : List D → Option Ans := runP 7 g_law_nears
theorem ok_law_nears (T : Txt P w K mg) : FnOk P w K mg base (CXX P w) 3 T.f_law_nears T.d_law_nears ["n", "m", "cell"] (SpP K 3 m_law_nears) := by
  exact fn_P (g := g_law_nears) T.F_law_nears sc_law_nears (fun cdv A outer s H E C hA hr tk => (ss_cons (st_set (fun _ p => ps_set (i := 3) sc_law_nears.nd rfl (by first | exact Or.inl rfl | exact Or.inr rfl) p) (cl_fn (ok_law_menu T) tk (hr.mono (by decide)) (by rfl) T.m_law_menu T.F_law_menu.kp T.b_law_menu (ea_cons (ev_var 2 (pv 2)) (ea_cons (ev_lst (ea_cons ev_int (ea_cons ev_int (ea_cons ev_int (ea_cons ev_int (ea_cons ev_int (ea_cons ev_int ea_nil))))))) (ea_cons ev_int ea_nil)))))
      (ss_cons (st_set (fun _ p => ps_set (i := 4) sc_law_nears.nd rfl (by first | exact Or.inl rfl | exact Or.inr rfl) p) (cl_fn (ok_near T) tk (hr.mono (by decide)) (by rfl) T.m_near T.F_near.kp T.b_near (ea_cons (ev_var 0 (pv 0)) ea_nil)))
      (ss_cons (st_set (fun _ p => ps_set (i := 5) sc_law_nears.nd rfl (by first | exact Or.inl rfl | exact Or.inr rfl) p) (cl_fn (ok_near T) tk (hr.mono (by decide)) (by rfl) T.m_near T.F_near.kp T.b_near (ea_cons (ev_add (ev_var 0 (pv 0)) ev_int) ea_nil)))
      (ss_cons (st_set (fun _ p => ps_set (i := 6) sc_law_nears.nd rfl (by first | exact Or.inl rfl | exact Or.inr rfl) p) (cl_fn (ok_near T) tk (hr.mono (by decide)) (by rfl) T.m_near T.F_near.kp T.b_near (ea_cons (ev_var 1 (pv 1)) ea_nil)))
      (ss_cons (st_if (te_w (tw_or (te_not (te_val (cl_fn (ok_law_nearest T) tk hr (by rfl) T.m_law_nearest T.F_law_nearest.kp T.b_law_nearest (ea_cons (ev_var 4 (pv 4)) (ea_cons (ev_var 0 (pv 0)) ea_nil))))) (tw_or (te_not (te_val (cl_fn (ok_law_nearest T) tk hr (by rfl) T.m_law_nearest T.F_law_nearest.kp T.b_law_nearest (ea_cons (ev_var 5 (pv 5)) (ea_cons (ev_add (ev_var 0 (pv 0)) ev_int) ea_nil))))) (tw_or1 (te_not (te_val (cl_fn (ok_law_nearest T) tk hr (by rfl) T.m_law_nearest T.F_law_nearest.kp T.b_law_nearest (ea_cons (ev_var 6 (pv 6)) (ea_cons (ev_var 1 (pv 1)) ea_nil))))))))) (ss_one (st_ret ev_bl)) ss_nil)
      (ss_cons (st_if (te_w (tw_or (te_cmp op_notIn_seq (by rfl) (vop_in true) (ev_sub (ev_var 5 (pv 5)) (ev_var 4 (pv 4))) (ev_tup (ea_cons ev_int (ea_cons ev_int ea_nil)))) (tw_or (te_not (te_val (cl_fn (ok_law_is T) tk hr (by rfl) T.m_law_is T.F_law_is.kp T.b_law_is (ea_cons (cl_fn (ok_near T) tk (hr.mono (by decide)) (by rfl) T.m_near T.F_near.kp T.b_near (ea_cons (ev_mul ev_int (ev_var 0 (pv 0))) ea_nil)) (ea_cons (ev_var 0 (pv 0)) ea_nil))))) (tw_or1 (te_not (te_val (cl_fn (ok_law_is T) tk hr (by rfl) T.m_law_is T.F_law_is.kp T.b_law_is (ea_cons (cl_fn (ok_near T) tk (hr.mono (by decide)) (by rfl) T.m_near T.F_near.kp T.b_near (ea_cons (ev_add (ev_mul ev_int (ev_var 0 (pv 0))) (ev_var 1 (pv 1))) ea_nil)) (ea_cons (ev_add (ev_var 0 (pv 0)) (ev_var 6 (pv 6))) ea_nil))))))))) (ss_one (st_ret ev_bl)) ss_nil)
      (ss_one (st_ret (cl_fn (ok_law_is T) tk hr (by rfl) T.m_law_is T.F_law_is.kp T.b_law_is (ea_cons (cl_fn (ok_near T) tk (hr.mono (by decide)) (by rfl) T.m_near T.F_near.kp T.b_near (ea_cons (ev_add (ev_mul ev_int (ev_var 0 (pv 0))) (ev_var 3 (pv 3))) ea_nil)) (ea_cons (ev_add (ev_var 0 (pv 0)) (ev_cb vc_int (ea_cons (ev_gt (ev_var 3 (pv 3)) ev_int) ea_nil) fun _ p => pe_callTy call_int1 (by rfl) T.z_int (by decide +kernel) p)) ea_nil)))))))))))) (fun _ _ _ h => h)
def g_law_products : MoS := (mSeq (mSet 6 (mFn 3 m_mix (mCons (mVar 2) (mCons (mVar 3) (mCons (mVar 5) (pur []))))))
  (mSeq (mIfS (mOr (mNot (mB (mFn 2 m_law_nearest (mCons (mFn 2 m_mul (mCons (mVar 0) (mCons (mVar 1) (pur [])))) (mCons (mOp gMul (mVar 0) (mVar 1)) (pur [])))))) (mOr (mNot (mB (mFn 2 m_law_is (mCons (mFn 2 m_mul (mCons (mVar 0) (mCons (pur (.int 255)) (pur [])))) (mCons (mVar 0) (pur [])))))) (mNot (mB (mFn 2 m_law_is (mCons (mFn 2 m_mul (mCons (pur (.int 255)) (mCons (mVar 1) (pur [])))) (mCons (mVar 1) (pur [])))))))) (mRet (pur (.bl false))) mNil)
  (mSeq (mIfS (mOr (mNot (mB (mFn 2 m_law_nearest (mCons (mFn 3 m_mix (mCons (mVar 2) (mCons (mVar 3) (mCons (mVar 4) (pur []))))) (mCons (mOp gAdd (mOp gMul (mVar 2) (mOp DL.gSub (pur (.int 255)) (mVar 4))) (mOp gMul (mVar 3) (mVar 4))) (pur [])))))) (mNot (mB (mFn 2 m_law_is (mCons (mFn 3 m_mix (mCons (mVar 2) (mCons (mVar 2) (mCons (mVar 5) (pur []))))) (mCons (mVar 2) (pur []))))))) (mRet (pur (.bl false))) mNil)
  (mSeq (mIfS (mOr (mNot (mB (mFn 2 m_law_nearest (mCons (mVar 6) (mCons (mOp gAdd (mOp gMul (mVar 2) (mOp DL.gSub (pur (.int 255)) (mVar 5))) (mOp gMul (mVar 3) (mVar 5))) (pur [])))))) (mNot (mB (mChain gLe gLe (mCall (gTwo gMin2) (mCons (mVar 2) (mCons (mVar 3) (pur [])))) (mVar 6) (mCall (gTwo gMax2) (mCons (mVar 2) (mCons (mVar 3) (pur [])))))))) (mRet (pur (.bl false))) mNil)
  (mRet (mAndV (mFn 2 m_law_is (mCons (mFn 3 m_mix (mCons (mVar 2) (mCons (mVar 3) (mCons (pur (.int 0)) (pur []))))) (mCons (mVar 2) (pur [])))) (mFn 2 m_law_is (mCons (mFn 3 m_mix (mCons (mVar 2) (mCons (mVar 3) (mCons (pur (.int 255)) (pur []))))) (mCons (mVar 3) (pur []))))))))))
def m_law_products : List D → Option Ans := runP 7 g_law_products
theorem ok_law_products (T : Txt P w K mg) : FnOk P w K mg base (CXX P w) 3 T.f_law_products T.d_law_products ["x", "y", "d", "f", "k", "share"] (SpP K 6 m_law_products) := by
  exact fn_P (g := g_law_products) T.F_law_products sc_law_products (fun cdv A outer s H E C hA hr tk => (ss_cons (st_set (fun _ p => ps_set (i := 6) sc_law_products.nd rfl (by first | exact Or.inl rfl | exact Or.inr rfl) p) (cl_fn (ok_mix T) tk hr (by rfl) T.m_mix T.F_mix.kp T.b_mix (ea_cons (ev_var 2 (pv 2)) (ea_cons (ev_var 3 (pv 3)) (ea_cons (ev_var 5 (pv 5)) ea_nil)))))
      (ss_cons (st_if (te_w (tw_or (te_not (te_val (cl_fn (ok_law_nearest T) tk hr (by rfl) T.m_law_nearest T.F_law_nearest.kp T.b_law_nearest (ea_cons (cl_fn (ok_mul T) tk hr (by rfl) T.m_mul T.F_mul.kp T.b_mul (ea_cons (ev_var 0 (pv 0)) (ea_cons (ev_var 1 (pv 1)) ea_nil))) (ea_cons (ev_mul (ev_var 0 (pv 0)) (ev_var 1 (pv 1))) ea_nil))))) (tw_or (te_not (te_val (cl_fn (ok_law_is T) tk hr (by rfl) T.m_law_is T.F_law_is.kp T.b_law_is (ea_cons (cl_fn (ok_mul T) tk hr (by rfl) T.m_mul T.F_mul.kp T.b_mul (ea_cons (ev_var 0 (pv 0)) (ea_cons ev_int ea_nil))) (ea_cons (ev_var 0 (pv 0)) ea_nil))))) (tw_or1 (te_not (te_val (cl_fn (ok_law_is T) tk hr (by rfl) T.m_law_is T.F_law_is.kp T.b_law_is (ea_cons (cl_fn (ok_mul T) tk hr (by rfl) T.m_mul T.F_mul.kp T.b_mul (ea_cons ev_int (ea_cons (ev_var 1 (pv 1)) ea_nil))) (ea_cons (ev_var 1 (pv 1)) ea_nil))))))))) (ss_one (st_ret ev_bl)) ss_nil)
      (ss_cons (st_if (te_w (tw_or (te_not (te_val (cl_fn (ok_law_nearest T) tk hr (by rfl) T.m_law_nearest T.F_law_nearest.kp T.b_law_nearest (ea_cons (cl_fn (ok_mix T) tk hr (by rfl) T.m_mix T.F_mix.kp T.b_mix (ea_cons (ev_var 2 (pv 2)) (ea_cons (ev_var 3 (pv 3)) (ea_cons (ev_var 4 (pv 4)) ea_nil)))) (ea_cons (ev_add (ev_mul (ev_var 2 (pv 2)) (ev_sub ev_int (ev_var 4 (pv 4)))) (ev_mul (ev_var 3 (pv 3)) (ev_var 4 (pv 4)))) ea_nil))))) (tw_or1 (te_not (te_val (cl_fn (ok_law_is T) tk hr (by rfl) T.m_law_is T.F_law_is.kp T.b_law_is (ea_cons (cl_fn (ok_mix T) tk hr (by rfl) T.m_mix T.F_mix.kp T.b_mix (ea_cons (ev_var 2 (pv 2)) (ea_cons (ev_var 2 (pv 2)) (ea_cons (ev_var 5 (pv 5)) ea_nil)))) (ea_cons (ev_var 2 (pv 2)) ea_nil)))))))) (ss_one (st_ret ev_bl)) ss_nil)
      (ss_cons (st_if (te_w (tw_or (te_not (te_val (cl_fn (ok_law_nearest T) tk hr (by rfl) T.m_law_nearest T.F_law_nearest.kp T.b_law_nearest (ea_cons (ev_var 6 (pv 6)) (ea_cons (ev_add (ev_mul (ev_var 2 (pv 2)) (ev_sub ev_int (ev_var 5 (pv 5)))) (ev_mul (ev_var 3 (pv 3)) (ev_var 5 (pv 5)))) ea_nil))))) (tw_or1 (te_not (te_chain op_le op_le (vop_I0 fun _ _ _ => .bl _) (vop_I0 fun _ _ _ => .bl _) (ev_cb vc_min2 (ea_cons (ev_var 2 (pv 2)) (ea_cons (ev_var 3 (pv 3)) ea_nil)) fun _ p => pe_callB (call_min2 rfl) (by rfl) T.z_min (by decide +kernel) p) (ev_var 6 (pv 6)) (ev_cb vc_max2 (ea_cons (ev_var 2 (pv 2)) (ea_cons (ev_var 3 (pv 3)) ea_nil)) fun _ p => pe_callB (call_max2 rfl) (by rfl) T.z_max (by decide +kernel) p) fun _ _ _ p q r => pt_chain op_le op_le p q r))))) (ss_one (st_ret ev_bl)) ss_nil)
      (ss_one (st_ret (ev_and (cl_fn (ok_law_is T) tk hr (by rfl) T.m_law_is T.F_law_is.kp T.b_law_is (ea_cons (cl_fn (ok_mix T) tk hr (by rfl) T.m_mix T.F_mix.kp T.b_mix (ea_cons (ev_var 2 (pv 2)) (ea_cons (ev_var 3 (pv 3)) (ea_cons ev_int ea_nil)))) (ea_cons (ev_var 2 (pv 2)) ea_nil))) (ev_one (cl_fn (ok_law_is T) tk hr (by rfl) T.m_law_is T.F_law_is.kp T.b_law_is (ea_cons (cl_fn (ok_mix T) tk hr (by rfl) T.m_mix T.F_mix.kp T.b_mix (ea_cons (ev_var 2 (pv 2)) (ea_cons (ev_var 3 (pv 3)) (ea_cons ev_int ea_nil)))) (ea_cons (ev_var 3 (pv 3)) ea_nil)))))))))))) (fun _ _ _ h => h)
def g_law_quotients : MoS := (mSeq (mSet 4 (mFn 3 m_law_menu (mCons (mVar 3) (mCons (mLst (mCons (mOp gDiv (mVar 1) (pur (.int 2))) (mCons (mCall (gTwo gMin2) (mCons (mOp DL.gSub (mVar 1) (pur (.int 1))) (mCons (mOp gDiv (mOp gAdd (mVar 1) (pur (.int 1))) (pur (.int 2))) (pur [])))) (mCons (mOp DL.gSub (mVar 1) (pur (.int 1))) (mCons (pur (.int 0)) (pur [])))))) (mCons (mVar 1) (pur []))))))
  (mSeq (mIfS (mOr (mNot (mB (mFn 3 m_law_rounded (mCons (mFn 2 m_mean (mCons (mVar 0) (mCons (mVar 1) (pur [])))) (mCons (mVar 0) (mCons (mVar 1) (pur []))))))) (mNot (mB (mFn 2 m_law_is (mCons (mFn 2 m_mean (mCons (mOp gMul (mVar 1) (mVar 2)) (mCons (mVar 1) (pur [])))) (mCons (mVar 2) (pur []))))))) (mRet (pur (.bl false))) mNil)
  (mRet (mFn 2 m_law_is (mCons (mFn 2 m_mean (mCons (mOp gAdd (mOp gMul (mVar 1) (mVar 2)) (mVar 4)) (mCons (mVar 1) (pur [])))) (mCons (mOp gAdd (mVar 2) (mCall (gOne gInt) (mCons (mOp gGe (mOp gMul (pur (.int 2)) (mVar 4)) (mVar 1)) (pur [])))) (pur [])))))))
def m_law_quotients : List D → Option Ans := runP 5 g_law_quotients
theorem ok_law_quotients (T : Txt P w K mg) : FnOk P w K mg base (CXX P w) 34 T.f_law_quotients T.d_law_quotients ["total", "count", "t", "cell"] (SpP K 4 m_law_quotients) := by
  exact fn_P (g := g_law_quotients) T.F_law_quotients sc_law_quotients (fun cdv A outer s H E C hA hr tk => (ss_cons (st_set (fun _ p => ps_set (i := 4) sc_law_quotients.nd rfl (by first | exact Or.inl rfl | exact Or.inr rfl) p) (cl_fn (ok_law_menu T) tk (hr.mono (by decide)) (by rfl) T.m_law_menu T.F_law_menu.kp T.b_law_menu (ea_cons (ev_var 3 (pv 3)) (ea_cons (ev_lst (ea_cons (ev_div (ev_var 1 (pv 1)) ev_int) (ea_cons (ev_cb vc_min2 (ea_cons (ev_sub (ev_var 1 (pv 1)) ev_int) (ea_cons (ev_div (ev_add (ev_var 1 (pv 1)) ev_int) ev_int) ea_nil)) fun _ p => pe_callB (call_min2 rfl) (by rfl) T.z_min (by decide +kernel) p) (ea_cons (ev_sub (ev_var 1 (pv 1)) ev_int) (ea_cons ev_int ea_nil))))) (ea_cons (ev_var 1 (pv 1)) ea_nil)))))
      (ss_cons (st_if (te_w (tw_or (te_not (te_val (cl_fn (ok_law_rounded T) tk (hr.mono (by decide)) (by rfl) T.m_law_rounded T.F_law_rounded.kp T.b_law_rounded (ea_cons (cl_fn (ok_mean T) tk hr (by rfl) T.m_mean T.F_mean.kp T.b_mean (ea_cons (ev_var 0 (pv 0)) (ea_cons (ev_var 1 (pv 1)) ea_nil))) (ea_cons (ev_var 0 (pv 0)) (ea_cons (ev_var 1 (pv 1)) ea_nil)))))) (tw_or1 (te_not (te_val (cl_fn (ok_law_is T) tk (hr.mono (by decide)) (by rfl) T.m_law_is T.F_law_is.kp T.b_law_is (ea_cons (cl_fn (ok_mean T) tk hr (by rfl) T.m_mean T.F_mean.kp T.b_mean (ea_cons (ev_mul (ev_var 1 (pv 1)) (ev_var 2 (pv 2))) (ea_cons (ev_var 1 (pv 1)) ea_nil))) (ea_cons (ev_var 2 (pv 2)) ea_nil)))))))) (ss_one (st_ret ev_bl)) ss_nil)
      (ss_one (st_ret (cl_fn (ok_law_is T) tk (hr.mono (by decide)) (by rfl) T.m_law_is T.F_law_is.kp T.b_law_is (ea_cons (cl_fn (ok_mean T) tk hr (by rfl) T.m_mean T.F_mean.kp T.b_mean (ea_cons (ev_add (ev_mul (ev_var 1 (pv 1)) (ev_var 2 (pv 2))) (ev_var 4 (pv 4))) (ea_cons (ev_var 1 (pv 1)) ea_nil))) (ea_cons (ev_add (ev_var 2 (pv 2)) (ev_cb vc_int (ea_cons (ev_ge (ev_mul ev_int (ev_var 4 (pv 4))) (ev_var 1 (pv 1))) ea_nil) fun _ p => pe_callTy call_int1 (by rfl) T.z_int (by decide +kernel) p)) ea_nil)))))))) (fun _ _ _ h => h)
def g_law_straights : MoS := (mSeq (mSet 2 (mOp gAdd (pur (.int 1)) (mCall (gOne gAbs) (mCons (mVar 1) (pur [])))))
  (mSeq (mSet 3 (mFn 2 m_straight (mCons (mVar 0) (mCons (mVar 1) (pur [])))))
  (mSeq (mIfS (mAnd (mB (mOp gGt (mVar 1) (pur (.int 0)))) (mNot (mB (mFn 3 m_law_rounded (mCons (mVar 3) (mCons (mOp gMul (pur (.int 255)) (mVar 0)) (mCons (mVar 1) (pur [])))))))) (mRet (pur (.bl false))) mNil)
  (mSeq (mIfS (mAnd (mB (mOp gLe (mVar 1) (pur (.int 0)))) (mNot (mB (mFn 2 m_law_is (mCons (mVar 3) (mCons (pur (.int 0)) (pur []))))))) (mRet (pur (.bl false))) mNil)
  (mSeq (mIfS (mOr (mNot (mB (mFn 3 m_law_rounded (mCons (mFn 2 m_straight (mCons (mVar 0) (mCons (mVar 2) (pur [])))) (mCons (mOp gMul (pur (.int 255)) (mVar 0)) (mCons (mVar 2) (pur []))))))) (mNot (mB (mFn 2 m_law_is (mCons (mFn 2 m_straight (mCons (mVar 2) (mCons (mVar 2) (pur [])))) (mCons (pur (.int 255)) (pur []))))))) (mRet (pur (.bl false))) mNil)
  (mRet (mAndV (mFn 2 m_law_is (mCons (mFn 2 m_straight (mCons (pur (.int 0)) (mCons (mVar 2) (pur [])))) (mCons (pur (.int 0)) (pur [])))) (mAndV (mFn 2 m_law_is (mCons (mFn 2 m_straight (mCons (mVar 0) (mCons (pur (.int 0)) (pur [])))) (mCons (pur (.int 0)) (pur [])))) (mFn 2 m_law_is (mCons (mFn 2 m_straight (mCons (mVar 0) (mCons (mUn gNeg (mVar 2)) (pur [])))) (mCons (pur (.int 0)) (pur []))))))))))))
def m_law_straights : List D → Option Ans := runP 4 g_law_straights
theorem ok_law_straights (T : Txt P w K mg) : FnOk P w K mg base (CXX P w) 34 T.f_law_straights T.d_law_straights ["c", "a"] (SpP K 2 m_law_straights) := by
  exact fn_P (g := g_law_straights) T.F_law_straights sc_law_straights (fun cdv A outer s H E C hA hr tk => (ss_cons (st_set (fun _ p => ps_set (i := 2) sc_law_straights.nd rfl (by first | exact Or.inl rfl | exact Or.inr rfl) p) (ev_add ev_int (ev_cb vc_abs (ea_cons (ev_var 1 (pv 1)) ea_nil) fun _ p => pe_callB call_abs (by rfl) T.z_abs (by decide +kernel) p)))
      (ss_cons (st_set (fun _ p => ps_set (i := 3) sc_law_straights.nd rfl (by first | exact Or.inl rfl | exact Or.inr rfl) p) (cl_fn (ok_straight T) tk hr (by rfl) T.m_straight T.F_straight.kp T.b_straight (ea_cons (ev_var 0 (pv 0)) (ea_cons (ev_var 1 (pv 1)) ea_nil))))
      (ss_cons (st_if (te_w (tw_and (te_cmp op_gt (nomark _) (vop_I0 fun _ _ _ => .bl _) (ev_var 1 (pv 1)) ev_int) (tw_and1 (te_not (te_val (cl_fn (ok_law_rounded T) tk (hr.mono (by decide)) (by rfl) T.m_law_rounded T.F_law_rounded.kp T.b_law_rounded (ea_cons (ev_var 3 (pv 3)) (ea_cons (ev_mul ev_int (ev_var 0 (pv 0))) (ea_cons (ev_var 1 (pv 1)) ea_nil))))))))) (ss_one (st_ret ev_bl)) ss_nil)
      (ss_cons (st_if (te_w (tw_and (te_cmp op_le (nomark _) (vop_I0 fun _ _ _ => .bl _) (ev_var 1 (pv 1)) ev_int) (tw_and1 (te_not (te_val (cl_fn (ok_law_is T) tk (hr.mono (by decide)) (by rfl) T.m_law_is T.F_law_is.kp T.b_law_is (ea_cons (ev_var 3 (pv 3)) (ea_cons ev_int ea_nil)))))))) (ss_one (st_ret ev_bl)) ss_nil)
      (ss_cons (st_if (te_w (tw_or (te_not (te_val (cl_fn (ok_law_rounded T) tk (hr.mono (by decide)) (by rfl) T.m_law_rounded T.F_law_rounded.kp T.b_law_rounded (ea_cons (cl_fn (ok_straight T) tk hr (by rfl) T.m_straight T.F_straight.kp T.b_straight (ea_cons (ev_var 0 (pv 0)) (ea_cons (ev_var 2 (pv 2)) ea_nil))) (ea_cons (ev_mul ev_int (ev_var 0 (pv 0))) (ea_cons (ev_var 2 (pv 2)) ea_nil)))))) (tw_or1 (te_not (te_val (cl_fn (ok_law_is T) tk (hr.mono (by decide)) (by rfl) T.m_law_is T.F_law_is.kp T.b_law_is (ea_cons (cl_fn (ok_straight T) tk hr (by rfl) T.m_straight T.F_straight.kp T.b_straight (ea_cons (ev_var 2 (pv 2)) (ea_cons (ev_var 2 (pv 2)) ea_nil))) (ea_cons ev_int ea_nil)))))))) (ss_one (st_ret ev_bl)) ss_nil)
      (ss_one (st_ret (ev_and (cl_fn (ok_law_is T) tk (hr.mono (by decide)) (by rfl) T.m_law_is T.F_law_is.kp T.b_law_is (ea_cons (cl_fn (ok_straight T) tk hr (by rfl) T.m_straight T.F_straight.kp T.b_straight (ea_cons ev_int (ea_cons (ev_var 2 (pv 2)) ea_nil))) (ea_cons ev_int ea_nil))) (ev_and (cl_fn (ok_law_is T) tk (hr.mono (by decide)) (by rfl) T.m_law_is T.F_law_is.kp T.b_law_is (ea_cons (cl_fn (ok_straight T) tk hr (by rfl) T.m_straight T.F_straight.kp T.b_straight (ea_cons (ev_var 0 (pv 0)) (ea_cons ev_int ea_nil))) (ea_cons ev_int ea_nil))) (ev_one (cl_fn (ok_law_is T) tk (hr.mono (by decide)) (by rfl) T.m_law_is T.F_law_is.kp T.b_law_is (ea_cons (cl_fn (ok_straight T) tk hr (by rfl) T.m_straight T.F_straight.kp T.b_straight (ea_cons (ev_var 0 (pv 0)) (ea_cons (ev_neg (ev_var 2 (pv 2))) ea_nil))) (ea_cons ev_int ea_nil)))))))))))))) (fun _ _ _ h => h)
def bd_law_holds_1 : MoS := (mIfS (mNot (mB (mFn 2 m_law_is (mCons (mFn 3 m_hold (mCons (mVar 3) (mCons (mVar 1) (mCons (mVar 2) (pur []))))) (mCons (mOp gIx (mCall (gOne gSorted) (mCons (mLst (mCons (mVar 1) (mCons (mVar 3) (mCons (mVar 2) (pur []))))) (pur []))) (pur (.int 1))) (pur [])))))) (mRet (pur (.bl false))) mNil)
def g_law_holds : MoS := (mSeq (mFor (bnd (mTup (mCons (mVar 0) (mCons (mOp DL.gSub (mVar 1) (pur (.int 1))) (mCons (mVar 1) (mCons (mVar 2) (mCons (mOp gAdd (mVar 2) (pur (.int 1))) (pur []))))))) fun d => lft (tupOf d)) (gdName 3) bd_law_holds_1)
  (mRet (pur (.bl true))))
def m_law_holds : List D → Option Ans := runP 4 g_law_holds
theorem ok_law_holds (T : Txt P w K mg) : FnOk P w K mg base (CXX P w) 3 T.f_law_holds T.d_law_holds ["v", "low", "high"] (SpP K 3 m_law_holds) := by
  exact fn_P (g := g_law_holds) T.F_law_holds sc_law_holds (fun cdv A outer s H E C hA hr tk => (ss_cons (st_for (ei_tup (ev_tup (ea_cons (ev_var 0 (pv 0)) (ea_cons (ev_sub (ev_var 1 (pv 1)) ev_int) (ea_cons (ev_var 1 (pv 1)) (ea_cons (ev_var 2 (pv 2)) (ea_cons (ev_add (ev_var 2 (pv 2)) ev_int) ea_nil))))))) (ss_one (st_if (te_not (te_val (cl_fn (ok_law_is T) tk hr (by rfl) T.m_law_is T.F_law_is.kp T.b_law_is (ea_cons (cl_fn (ok_hold T) tk (hr.mono (by decide)) (by rfl) T.m_hold T.F_hold.kp T.b_hold (ea_cons (ev_var 3 (pv 3)) (ea_cons (ev_var 1 (pv 1)) (ea_cons (ev_var 2 (pv 2)) ea_nil)))) (ea_cons (ev_item (fun _ _ => rfl) (ev_cb vc_sorted (ea_cons (ev_lst (ea_cons (ev_var 1 (pv 1)) (ea_cons (ev_var 3 (pv 3)) (ea_cons (ev_var 2 (pv 2)) ea_nil)))) ea_nil) fun _ p => pe_callB cr_sortedI (by rfl) T.z_sorted (by decide +kernel) p) ev_int) ea_nil))))) (ss_one (st_ret ev_bl)) ss_nil)) (sg_name (i := 3)) fun _ _ p q => ps_for (passes_of rfl) rfl p (pg_name (i := 3) sc_law_holds.nd rfl (by first | exact Or.inl rfl | exact Or.inr rfl)) q)
      (ss_one (st_ret ev_bl)))) (fun _ _ _ h => h)
def bd_law_1 : Mo D := (mFn 2 m_law_cell (mCons (mVar 0) (mCons (mVar 3) (pur []))))
def bd_law_2 : Mo (List D) := (mLc [3] (bnd (mCons (pur (.int 18)) (pur [])) fun ds => lft (rng1 ds)) (gdName 3) (pur true) bd_law_1)
def g_law : MoS := (mSeq (mSetO 1 bd_law_2)
  (mSeq (mSet 2 (mFn 3 m_law_menu (mCons (mItemN 1 (pur (.int 8))) (mCons (mLst (mCons (pur (.int 0)) (mCons (pur (.int 255)) (mCons (pur (.int 1)) (mCons (pur (.int 254)) (mCons (pur (.int 127)) (mCons (pur (.int 128)) (pur [])))))))) (mCons (pur (.int 256)) (pur []))))))
  (mSeq (mIfS (mOr (mNot (mB (mFn 3 m_law_nears (mCons (mItemN 1 (pur (.int 0))) (mCons (mItemN 1 (pur (.int 1))) (mCons (mItemN 1 (pur (.int 2))) (pur []))))))) (mNot (mB (mFn 6 m_law_products (mCons (mItemN 1 (pur (.int 3))) (mCons (mItemN 1 (pur (.int 4))) (mCons (mItemN 1 (pur (.int 5))) (mCons (mItemN 1 (pur (.int 6))) (mCons (mItemN 1 (pur (.int 7))) (mCons (mVar 2) (pur []))))))))))) (mRet (pur (.bl false))) mNil)
  (mSeq (mIfS (mOr (mNot (mB (mFn 4 m_law_quotients (mCons (mItemN 1 (pur (.int 9))) (mCons (mOp gAdd (pur (.int 1)) (mCall (gOne gAbs) (mCons (mItemN 1 (pur (.int 10))) (pur [])))) (mCons (mItemN 1 (pur (.int 11))) (mCons (mItemN 1 (pur (.int 12))) (pur [])))))))) (mNot (mB (mFn 2 m_law_straights (mCons (mItemN 1 (pur (.int 13))) (mCons (mItemN 1 (pur (.int 14))) (pur []))))))) (mRet (pur (.bl false))) mNil)
  (mRet (mFn 3 m_law_holds (mCons (mItemN 1 (pur (.int 15))) (mCons (mCall (gTwo gMin2) (mCons (mItemN 1 (pur (.int 16))) (mCons (mItemN 1 (pur (.int 17))) (pur [])))) (mCons (mCall (gTwo gMax2) (mCons (mItemN 1 (pur (.int 16))) (mCons (mItemN 1 (pur (.int 17))) (pur [])))) (pur []))))))))))
def Bn (n : Nat) (x : Int) : Prop := x.natAbs < 2 ^ n
theorem Bn.le {n : Nat} {x y : Int} (h : Bn n y) (hx : x.natAbs ≤ y.natAbs) : Bn n x := Nat.lt_of_le_of_lt hx h
theorem Bn.mono {n m : Nat} {x : Int} (h : Bn n x) (hm : n ≤ m) : Bn m x := Nat.lt_of_lt_of_le h (Nat.pow_le_pow_right (by decide) hm)
theorem Bn.add {n : Nat} {x y : Int} (h : Bn n x) (h2 : Bn n y) : Bn (n + 1) (x + y) := by
  unfold Bn at *
  have := Int.natAbs_add_le x y
  rw [Nat.pow_succ]
  omega
theorem Bn.sub {n : Nat} {x y : Int} (h : Bn n x) (h2 : Bn n y) : Bn (n + 1) (x - y) := by
  unfold Bn at *
  have := Int.natAbs_sub_le x y
  rw [Nat.pow_succ]
  omega
theorem Bn.mul {n m : Nat} {x y : Int} (h : Bn n x) (h2 : Bn m y) : Bn (n + m) (x * y) := by
  unfold Bn at *
  rw [Int.natAbs_mul, Nat.pow_add]
  exact Nat.mul_lt_mul'' h h2
theorem Bn.log {n : Nat} {x : Int} (h : Bn n x) : x.natAbs.log2 ≤ n := by
  by_cases h0 : x.natAbs = 0
  · rw [h0, show Nat.log2 0 = 0 from rfl]; exact Nat.zero_le n
  · exact Nat.le_of_lt ((Nat.log2_lt h0).mpr h)
theorem Bn.ok {n m : Nat} {x y : Int} (h : Bn n x) (h2 : Bn m y) (hn : n + m ≤ 100000000) : mulOk x y = true := by
  have := h.log
  have := h2.log
  exact decide_eq_true (by omega)
theorem Bn.lit {x : Int} (h : x.natAbs < 2 ^ 10) : Bn 10 x := h
theorem near_mono {x y : Int} (h : x ≤ y) : (x + 127) / 255 ≤ (y + 127) / 255 := Int.ediv_le_ediv (by decide) (by omega)
def Near (x t : Int) : Prop := -127 ≤ 255 * x - t ∧ 255 * x - t ≤ 127
theorem near_near (x : Int) : Near ((x + 127) / 255) x := by unfold Near; omega
theorem Bn.near {n : Nat} {x : Int} (h : Bn n x) : Bn (n + 1) ((x + 127) / 255) := by
  unfold Bn at *
  rw [Nat.pow_succ]
  have : 0 < 2 ^ n := Nat.pow_pos (by decide)
  omega
theorem r_near (n : Int) : m_near [.int n] = some (.ret (.int ((n + 127) / 255))) := by simp [m_near, g_near, runP, runO, runQ, ansOf, outQ, env0, envQ, mSeq, mNil, mRet, mRetO, mRetOwn, mRetN, mSet, mSetO, mAsg, mIfS, mThen, mDrop, mApp, mPut, mFor, forGo, mAug, mFn, mFnO, mFnQ, bnd, pur, lft, mCons, mVar, mOp, mUn, mTup, mLst, mLstO, mB, asB, mNot, mAnd, mOr, mAndV, mOrV, mNotV, mIf, mChain, mCall, ansM, mPop, mLenN, mItemN, mSl, mSlO, mCatO, mListO, mListRev, mFz, mLc, lcGo, wipeE, backE, gdName, gdTup, setL, Ent.get, Ent.put, gLen, gOne, gTwo, gI, gAdd, DL.gSub, gMul, gDiv, gMod, gPow, gLt, gLe, gGt, gGe, gNeg, gEqS, gNeS, gIsN, gInt, gAbs, gMin2, gMax2, gStr, gTuple, gList, gIx, seqOf, lstOf, tupOf, asI, rng1, rng2, gSlL, gSlT, gCatS, gCatL, gCatT, tyName, mTruth, gTruth, mDct, intKeys, gKd, gUpper, gdLst, mNewB, mDGet, mDPut, dkAt, keyD]
theorem r_mul {x y : Int} (h : mulOk x y = true) : m_mul [.int x, .int y] = some (.ret (.int ((x * y + 127) / 255))) := by simp [m_mul, g_mul, r_near, h, runP, runO, runQ, ansOf, outQ, env0, envQ, mSeq, mNil, mRet, mRetO, mRetOwn, mRetN, mSet, mSetO, mAsg, mIfS, mThen, mDrop, mApp, mPut, mFor, forGo, mAug, mFn, mFnO, mFnQ, bnd, pur, lft, mCons, mVar, mOp, mUn, mTup, mLst, mLstO, mB, asB, mNot, mAnd, mOr, mAndV, mOrV, mNotV, mIf, mChain, mCall, ansM, mPop, mLenN, mItemN, mSl, mSlO, mCatO, mListO, mListRev, mFz, mLc, lcGo, wipeE, backE, gdName, gdTup, setL, Ent.get, Ent.put, gLen, gOne, gTwo, gI, gAdd, DL.gSub, gMul, gDiv, gMod, gPow, gLt, gLe, gGt, gGe, gNeg, gEqS, gNeS, gIsN, gInt, gAbs, gMin2, gMax2, gStr, gTuple, gList, gIx, seqOf, lstOf, tupOf, asI, rng1, rng2, gSlL, gSlT, gCatS, gCatL, gCatT, tyName, mTruth, gTruth, mDct, intKeys, gKd, gUpper, gdLst, mNewB, mDGet, mDPut, dkAt, keyD]
theorem r_mix {d f k : Int} (h1 : mulOk d (255 - k) = true) (h2 : mulOk f k = true) : m_mix [.int d, .int f, .int k] = some (.ret (.int ((d * (255 - k) + f * k + 127) / 255))) := by simp [m_mix, g_mix, r_near, h1, h2, runP, runO, runQ, ansOf, outQ, env0, envQ, mSeq, mNil, mRet, mRetO, mRetOwn, mRetN, mSet, mSetO, mAsg, mIfS, mThen, mDrop, mApp, mPut, mFor, forGo, mAug, mFn, mFnO, mFnQ, bnd, pur, lft, mCons, mVar, mOp, mUn, mTup, mLst, mLstO, mB, asB, mNot, mAnd, mOr, mAndV, mOrV, mNotV, mIf, mChain, mCall, ansM, mPop, mLenN, mItemN, mSl, mSlO, mCatO, mListO, mListRev, mFz, mLc, lcGo, wipeE, backE, gdName, gdTup, setL, Ent.get, Ent.put, gLen, gOne, gTwo, gI, gAdd, DL.gSub, gMul, gDiv, gMod, gPow, gLt, gLe, gGt, gGe, gNeg, gEqS, gNeS, gIsN, gInt, gAbs, gMin2, gMax2, gStr, gTuple, gList, gIx, seqOf, lstOf, tupOf, asI, rng1, rng2, gSlL, gSlT, gCatS, gCatL, gCatT, tyName, mTruth, gTruth, mDct, intKeys, gKd, gUpper, gdLst, mNewB, mDGet, mDPut, dkAt, keyD]
theorem r_straight0 {c a : Int} (h : ¬ 0 < a) : m_straight [.int c, .int a] = some (.ret (.int 0)) := by simp [m_straight, g_straight, h, runP, runO, runQ, ansOf, outQ, env0, envQ, mSeq, mNil, mRet, mRetO, mRetOwn, mRetN, mSet, mSetO, mAsg, mIfS, mThen, mDrop, mApp, mPut, mFor, forGo, mAug, mFn, mFnO, mFnQ, bnd, pur, lft, mCons, mVar, mOp, mUn, mTup, mLst, mLstO, mB, asB, mNot, mAnd, mOr, mAndV, mOrV, mNotV, mIf, mChain, mCall, ansM, mPop, mLenN, mItemN, mSl, mSlO, mCatO, mListO, mListRev, mFz, mLc, lcGo, wipeE, backE, gdName, gdTup, setL, Ent.get, Ent.put, gLen, gOne, gTwo, gI, gAdd, DL.gSub, gMul, gDiv, gMod, gPow, gLt, gLe, gGt, gGe, gNeg, gEqS, gNeS, gIsN, gInt, gAbs, gMin2, gMax2, gStr, gTuple, gList, gIx, seqOf, lstOf, tupOf, asI, rng1, rng2, gSlL, gSlT, gCatS, gCatL, gCatT, tyName, mTruth, gTruth, mDct, intKeys, gKd, gUpper, gdLst, mNewB, mDGet, mDPut, dkAt, keyD]
theorem r_straight {c a : Int} (ha : 0 < a) (h1 : mulOk 510 c = true) (h2 : mulOk 2 a = true) : m_straight [.int c, .int a] = some (.ret (.int ((510 * c + a) / (2 * a)))) := by
  have h3 : 0 < 2 * a := by omega
  simp [m_straight, g_straight, gDivP, ha, h1, h2, h3, runP, runO, runQ, ansOf, outQ, env0, envQ, mSeq, mNil, mRet, mRetO, mRetOwn, mRetN, mSet, mSetO, mAsg, mIfS, mThen, mDrop, mApp, mPut, mFor, forGo, mAug, mFn, mFnO, mFnQ, bnd, pur, lft, mCons, mVar, mOp, mUn, mTup, mLst, mLstO, mB, asB, mNot, mAnd, mOr, mAndV, mOrV, mNotV, mIf, mChain, mCall, ansM, mPop, mLenN, mItemN, mSl, mSlO, mCatO, mListO, mListRev, mFz, mLc, lcGo, wipeE, backE, gdName, gdTup, setL, Ent.get, Ent.put, gLen, gOne, gTwo, gI, gAdd, DL.gSub, gMul, gDiv, gMod, gPow, gLt, gLe, gGt, gGe, gNeg, gEqS, gNeS, gIsN, gInt, gAbs, gMin2, gMax2, gStr, gTuple, gList, gIx, seqOf, lstOf, tupOf, asI, rng1, rng2, gSlL, gSlT, gCatS, gCatL, gCatT, tyName, mTruth, gTruth, mDct, intKeys, gKd, gUpper, gdLst, mNewB, mDGet, mDPut, dkAt, keyD]
theorem r_mean {t c : Int} (hc : 0 < c) (h1 : mulOk 2 t = true) (h2 : mulOk 2 c = true) : m_mean [.int t, .int c] = some (.ret (.int ((2 * t + c) / (2 * c)))) := by
  have h3 : 0 < 2 * c := by omega
  simp [m_mean, g_mean, gDivP, hc, h1, h2, h3, runP, runO, runQ, ansOf, outQ, env0, envQ, mSeq, mNil, mRet, mRetO, mRetOwn, mRetN, mSet, mSetO, mAsg, mIfS, mThen, mDrop, mApp, mPut, mFor, forGo, mAug, mFn, mFnO, mFnQ, bnd, pur, lft, mCons, mVar, mOp, mUn, mTup, mLst, mLstO, mB, asB, mNot, mAnd, mOr, mAndV, mOrV, mNotV, mIf, mChain, mCall, ansM, mPop, mLenN, mItemN, mSl, mSlO, mCatO, mListO, mListRev, mFz, mLc, lcGo, wipeE, backE, gdName, gdTup, setL, Ent.get, Ent.put, gLen, gOne, gTwo, gI, gAdd, DL.gSub, gMul, gDiv, gMod, gPow, gLt, gLe, gGt, gGe, gNeg, gEqS, gNeS, gIsN, gInt, gAbs, gMin2, gMax2, gStr, gTuple, gList, gIx, seqOf, lstOf, tupOf, asI, rng1, rng2, gSlL, gSlT, gCatS, gCatL, gCatT, tyName, mTruth, gTruth, mDct, intKeys, gKd, gUpper, gdLst, mNewB, mDGet, mDPut, dkAt, keyD]
theorem kb : kitB "int" "int" = some true ∧ kitB "int" "bool" = some false := by decide +kernel
theorem r_whole (i : Int) : m_law_whole [.int i] = some (.ret (.bl true)) := by simp [m_law_whole, g_law_whole, gIsi, tyName, kb, runP, runO, runQ, ansOf, outQ, env0, envQ, mSeq, mNil, mRet, mRetO, mRetOwn, mRetN, mSet, mSetO, mAsg, mIfS, mThen, mDrop, mApp, mPut, mFor, forGo, mAug, mFn, mFnO, mFnQ, bnd, pur, lft, mCons, mVar, mOp, mUn, mTup, mLst, mLstO, mB, asB, mNot, mAnd, mOr, mAndV, mOrV, mNotV, mIf, mChain, mCall, ansM, mPop, mLenN, mItemN, mSl, mSlO, mCatO, mListO, mListRev, mFz, mLc, lcGo, wipeE, backE, gdName, gdTup, setL, Ent.get, Ent.put, gLen, gOne, gTwo, gI, gAdd, DL.gSub, gMul, gDiv, gMod, gPow, gLt, gLe, gGt, gGe, gNeg, gEqS, gNeS, gIsN, gInt, gAbs, gMin2, gMax2, gStr, gTuple, gList, gIx, seqOf, lstOf, tupOf, asI, rng1, rng2, gSlL, gSlT, gCatS, gCatL, gCatT, tyName, mTruth, gTruth, mDct, intKeys, gKd, gUpper, gdLst, mNewB, mDGet, mDPut, dkAt, keyD]
theorem r_is (i : Int) : m_law_is [.int i, .int i] = some (.ret (.bl true)) := by simp [m_law_is, g_law_is, r_whole, runP, runO, runQ, ansOf, outQ, env0, envQ, mSeq, mNil, mRet, mRetO, mRetOwn, mRetN, mSet, mSetO, mAsg, mIfS, mThen, mDrop, mApp, mPut, mFor, forGo, mAug, mFn, mFnO, mFnQ, bnd, pur, lft, mCons, mVar, mOp, mUn, mTup, mLst, mLstO, mB, asB, mNot, mAnd, mOr, mAndV, mOrV, mNotV, mIf, mChain, mCall, ansM, mPop, mLenN, mItemN, mSl, mSlO, mCatO, mListO, mListRev, mFz, mLc, lcGo, wipeE, backE, gdName, gdTup, setL, Ent.get, Ent.put, gLen, gOne, gTwo, gI, gAdd, DL.gSub, gMul, gDiv, gMod, gPow, gLt, gLe, gGt, gGe, gNeg, gEqS, gNeS, gIsN, gInt, gAbs, gMin2, gMax2, gStr, gTuple, gList, gIx, seqOf, lstOf, tupOf, asI, rng1, rng2, gSlL, gSlT, gCatS, gCatL, gCatT, tyName, mTruth, gTruth, mDct, intKeys, gKd, gUpper, gdLst, mNewB, mDGet, mDPut, dkAt, keyD]
theorem r_nearest {x t : Int} (h : Near x t) (hm : mulOk 255 x = true) : m_law_nearest [.int x, .int t] = some (.ret (.bl true)) := by
  simp [m_law_nearest, g_law_nearest, r_whole, h.1, h.2, hm, runP, runO, runQ, ansOf, outQ, env0, envQ, mSeq, mNil, mRet, mRetO, mRetOwn, mRetN, mSet, mSetO, mAsg, mIfS, mThen, mDrop, mApp, mPut, mFor, forGo, mAug, mFn, mFnO, mFnQ, bnd, pur, lft, mCons, mVar, mOp, mUn, mTup, mLst, mLstO, mB, asB, mNot, mAnd, mOr, mAndV, mOrV, mNotV, mIf, mChain, mCall, ansM, mPop, mLenN, mItemN, mSl, mSlO, mCatO, mListO, mListRev, mFz, mLc, lcGo, wipeE, backE, gdName, gdTup, setL, Ent.get, Ent.put, gLen, gOne, gTwo, gI, gAdd, DL.gSub, gMul, gDiv, gMod, gPow, gLt, gLe, gGt, gGe, gNeg, gEqS, gNeS, gIsN, gInt, gAbs, gMin2, gMax2, gStr, gTuple, gList, gIx, seqOf, lstOf, tupOf, asI, rng1, rng2, gSlL, gSlT, gCatS, gCatL, gCatT, tyName, mTruth, gTruth, mDct, intKeys, gKd, gUpper, gdLst, mNewB, mDGet, mDPut, dkAt, keyD]
def Rnd (got total count : Int) : Prop := 2 * count * got ≤ 2 * total + count ∧ 2 * total + count < 2 * count * got + 2 * count
theorem r_rounded {got total count : Int} (h : Rnd got total count) (h1 : mulOk 2 count = true) (h2 : mulOk (2 * count) got = true) (h3 : mulOk 2 total = true) : m_law_rounded [.int got, .int total, .int count] = some (.ret (.bl true)) := by
  have a := h.1
  have b := h.2
  simp [m_law_rounded, g_law_rounded, r_whole, a, b, h1, h2, h3, runP, runO, runQ, ansOf, outQ, env0, envQ, mSeq, mNil, mRet, mRetO, mRetOwn, mRetN, mSet, mSetO, mAsg, mIfS, mThen, mDrop, mApp, mPut, mFor, forGo, mAug, mFn, mFnO, mFnQ, bnd, pur, lft, mCons, mVar, mOp, mUn, mTup, mLst, mLstO, mB, asB, mNot, mAnd, mOr, mAndV, mOrV, mNotV, mIf, mChain, mCall, ansM, mPop, mLenN, mItemN, mSl, mSlO, mCatO, mListO, mListRev, mFz, mLc, lcGo, wipeE, backE, gdName, gdTup, setL, Ent.get, Ent.put, gLen, gOne, gTwo, gI, gAdd, DL.gSub, gMul, gDiv, gMod, gPow, gLt, gLe, gGt, gGe, gNeg, gEqS, gNeS, gIsN, gInt, gAbs, gMin2, gMax2, gStr, gTuple, gList, gIx, seqOf, lstOf, tupOf, asI, rng1, rng2, gSlL, gSlT, gCatS, gCatL, gCatT, tyName, mTruth, gTruth, mDct, intKeys, gKd, gUpper, gdLst, mNewB, mDGet, mDPut, dkAt, keyD]
theorem rnd_ok {t c : Int} (hc : 0 < c) : Rnd ((2 * t + c) / (2 * c)) t c := by
  have hp : 0 < 2 * c := by omega
  exact ⟨Int.mul_ediv_self_le (by omega), Int.lt_mul_ediv_self_add hp⟩
theorem r_menu {cell many : Int} {rows : List Int} (h0 : 0 < rows.length) (hm : 0 < many) : ∃ v : Int, m_law_menu [.int cell, .lst (rows.map D.int), .int many] = some (.ret (.int v)) ∧ (v ∈ rows ∨ (0 ≤ v ∧ v < many)) := by
  by_cases h : cell % 3 = 0
  · have hl : (0 : Int) < (rows.length : Int) := by omega
    have k0 := Int.emod_nonneg (cell / 3) (show (rows.length : Int) ≠ 0 by omega)
    have k1 := Int.emod_lt_of_pos (cell / 3) hl
    have hj : (cell / 3 % (rows.length : Int)).toNat < rows.length := by omega
    have hv : atI (rows.map D.int) (cell / 3 % (rows.length : Int)) = some (.int rows[(cell / 3 % (rows.length : Int)).toNat]) := by
      have := atI_nat (xs := rows.map D.int) (j := (cell / 3 % (rows.length : Int)).toNat) (by rw [List.getElem?_map, List.getElem?_eq_getElem hj]; rfl)
      rwa [show (((cell / 3 % (rows.length : Int)).toNat : Nat) : Int) = cell / 3 % (rows.length : Int) by omega] at this
    have h0' : rows ≠ [] := fun z => by rw [z] at h0; cases h0
    refine ⟨rows[(cell / 3 % (rows.length : Int)).toNat], ?_, .inl (List.getElem_mem hj)⟩
    simp [m_law_menu, g_law_menu, h, hv, h0, runP, runO, runQ, ansOf, outQ, env0, envQ, mSeq, mNil, mRet, mRetO, mRetOwn, mRetN, mSet, mSetO, mAsg, mIfS, mThen, mDrop, mApp, mPut, mFor, forGo, mAug, mFn, mFnO, mFnQ, bnd, pur, lft, mCons, mVar, mOp, mUn, mTup, mLst, mLstO, mB, asB, mNot, mAnd, mOr, mAndV, mOrV, mNotV, mIf, mChain, mCall, ansM, mPop, mLenN, mItemN, mSl, mSlO, mCatO, mListO, mListRev, mFz, mLc, lcGo, wipeE, backE, gdName, gdTup, setL, Ent.get, Ent.put, gLen, gOne, gTwo, gI, gAdd, DL.gSub, gMul, gDiv, gMod, gPow, gLt, gLe, gGt, gGe, gNeg, gEqS, gNeS, gIsN, gInt, gAbs, gMin2, gMax2, gStr, gTuple, gList, gIx, seqOf, lstOf, tupOf, asI, rng1, rng2, gSlL, gSlT, gCatS, gCatL, gCatT, tyName, mTruth, gTruth, mDct, intKeys, gKd, gUpper, gdLst, mNewB, mDGet, mDPut, dkAt, keyD]
  · exact ⟨cell / 3 % many, by simp [m_law_menu, g_law_menu, h, hm, runP, runO, runQ, ansOf, outQ, env0, envQ, mSeq, mNil, mRet, mRetO, mRetOwn, mRetN, mSet, mSetO, mAsg, mIfS, mThen, mDrop, mApp, mPut, mFor, forGo, mAug, mFn, mFnO, mFnQ, bnd, pur, lft, mCons, mVar, mOp, mUn, mTup, mLst, mLstO, mB, asB, mNot, mAnd, mOr, mAndV, mOrV, mNotV, mIf, mChain, mCall, ansM, mPop, mLenN, mItemN, mSl, mSlO, mCatO, mListO, mListRev, mFz, mLc, lcGo, wipeE, backE, gdName, gdTup, setL, Ent.get, Ent.put, gLen, gOne, gTwo, gI, gAdd, DL.gSub, gMul, gDiv, gMod, gPow, gLt, gLe, gGt, gGe, gNeg, gEqS, gNeS, gIsN, gInt, gAbs, gMin2, gMax2, gStr, gTuple, gList, gIx, seqOf, lstOf, tupOf, asI, rng1, rng2, gSlL, gSlT, gCatS, gCatL, gCatT, tyName, mTruth, gTruth, mDct, intKeys, gKd, gUpper, gdLst, mNewB, mDGet, mDPut, dkAt, keyD], .inr ⟨Int.emod_nonneg _ (by omega), Int.emod_lt_of_pos _ hm⟩⟩

section
variable {k : Nat}
theorem gin01 {x : Int} (h : x = 0 ∨ x = 1) : gIn true (.int x) (.tup [.int 0, .int 1]) = some (.bl false) := by
  rcases h with rfl | rfl <;> rfl
theorem r_nears {n m cell : Int} (hk : k ≤ 2000000) (hn : Bn k n) (hm : Bn k m) : m_law_nears [.int n, .int m, .int cell] = some (.ret (.bl true)) := by
  obtain ⟨v, e1, hv⟩ := r_menu (cell := cell) (many := 255) (rows := [127, 128, 126, 129, 0, 254]) (by decide) (by decide)
  have e1' : m_law_menu [.int cell, .lst [.int 127, .int 128, .int 126, .int 129, .int 0, .int 254], .int 255] = some (.ret (.int v)) := e1
  have hv : 0 ≤ v ∧ v < 255 := by
    rcases hv with hv | hv
    · simp at hv; omega
    · exact hv
  have l255 : Bn 10 255 := .lit (by decide)
  have l1 : Bn k 1 ∨ k = 0 := by
    cases k with
    | zero => exact .inr rfl
    | succ k => exact .inl (by unfold Bn; rw [Nat.pow_succ]; have : 0 < 2 ^ k := Nat.pow_pos (by decide); omega)
  have hn1 : Bn (k + 1) (n + 1) := by
    unfold Bn at *
    rw [Nat.pow_succ]
    have : 0 < 2 ^ k := Nat.pow_pos (by decide)
    omega
  have m1 : mulOk 255 n = true := l255.ok hn (by omega)
  have m2 : mulOk 255 ((n + 127) / 255) = true := l255.ok hn.near (by omega)
  have m3 : mulOk 255 ((n + 1 + 127) / 255) = true := l255.ok hn1.near (by omega)
  have m4 : mulOk 255 ((m + 127) / 255) = true := l255.ok hm.near (by omega)
  have a1 := r_nearest (near_near n) m2
  have a2 := r_nearest (near_near (n + 1)) m3
  have a3 := r_nearest (near_near m) m4
  have g := gin01 (x := (n + 1 + 127) / 255 - (n + 127) / 255) (by omega)
  have b1 : (255 * n + 127) / 255 = n := by omega
  have b2 : (255 * n + m + 127) / 255 = n + (m + 127) / 255 := by omega
  have b3 : (255 * n + v + 127) / 255 = n + (if 127 < v then 1 else 0) := by split <;> omega
  have i1 := r_is n
  have i2 := r_is (n + (m + 127) / 255)
  have i3 := r_is (n + (if 127 < v then 1 else 0))
  simp [m_law_nears, g_law_nears, mSeq, mSet, mLst, e1', r_near, a1, a2, a3, m1, g, b1, b2, b3, i1, i2, i3, mOp, gAdd, DL.gSub, gMul, gGt, gI, mCall, gOne, gInt, mIfS, mThen, mNot, mB, mFn, mCons, mVar, bnd, pur, lft, ansM, asB, mNil, mAnd, mOr, mAndV, mOrV, mRet, mTup, runP, ansOf, env0]
theorem mix_lo {d f s : Int} (hs : 0 ≤ s ∧ s ≤ 255) (h : d ≤ f) : d ≤ (d * (255 - s) + f * s + 127) / 255 ∧ (d * (255 - s) + f * s + 127) / 255 ≤ f := by
  have h1 : d * s ≤ f * s := Int.mul_le_mul_of_nonneg_right h hs.1
  have h2 : d * (255 - s) ≤ f * (255 - s) := Int.mul_le_mul_of_nonneg_right h (by omega)
  have h3 : d * (255 - s) + d * s = 255 * d := by rw [← Int.mul_add]; omega
  have h4 : f * (255 - s) + f * s = 255 * f := by rw [← Int.mul_add]; omega
  omega
theorem mix_hi {d f s : Int} (hs : 0 ≤ s ∧ s ≤ 255) (h : f ≤ d) : f ≤ (d * (255 - s) + f * s + 127) / 255 ∧ (d * (255 - s) + f * s + 127) / 255 ≤ d := by
  have h1 : f * s ≤ d * s := Int.mul_le_mul_of_nonneg_right h hs.1
  have h2 : f * (255 - s) ≤ d * (255 - s) := Int.mul_le_mul_of_nonneg_right h (by omega)
  have h3 : d * (255 - s) + d * s = 255 * d := by rw [← Int.mul_add]; omega
  have h4 : f * (255 - s) + f * s = 255 * f := by rw [← Int.mul_add]; omega
  omega
theorem r_products {x y d f q s : Int} (hk : k ≤ 2000000) (hx : Bn k x) (hy : Bn k y) (hd : Bn k d) (hf : Bn k f) (hq : Bn k q) (hs : 0 ≤ s ∧ s ≤ 255) : m_law_products [.int x, .int y, .int d, .int f, .int q, .int s] = some (.ret (.bl true)) := by
  have l255 : Bn 10 255 := .lit (by decide)
  have ls : Bn 10 s := .lit (by omega)
  have ls2 : Bn 10 (255 - s) := .lit (by omega)
  have lq : Bn (k + 11) (255 - q) := (l255.mono (show 10 ≤ k + 10 by omega)).sub (hq.mono (by omega))
  have m1 : mulOk x y = true := hx.ok hy (by omega)
  have m2 : mulOk x 255 = true := hx.ok l255 (by omega)
  have m3 : mulOk 255 y = true := l255.ok hy (by omega)
  have m4 : mulOk d (255 - q) = true := hd.ok lq (by omega)
  have m5 : mulOk f q = true := hf.ok hq (by omega)
  have m6 : mulOk d (255 - s) = true := hd.ok ls2 (by omega)
  have m7 : mulOk f s = true := hf.ok ls (by omega)
  have m8 : mulOk d s = true := hd.ok ls (by omega)
  have m9 : mulOk d (255 - 0) = true := hd.ok l255 (by omega)
  have m10 : mulOk f 0 = true := hf.ok (.lit (by decide) : Bn 10 0) (by omega)
  have m11 : mulOk d (255 - 255) = true := hd.ok (.lit (by decide) : Bn 10 (255 - 255)) (by omega)
  have m12 : mulOk f 255 = true := hf.ok l255 (by omega)
  have x1 := r_mix m4 m5
  have x2 := r_mix m6 m7
  have x3 := r_mix m6 m8
  have x4 := r_mix m9 m10
  have x5 := r_mix m11 m12
  have y1 := r_mul m1
  have y2 := r_mul m2
  have y3 := r_mul m3
  have z1 : (x * 255 + 127) / 255 = x := by omega
  have z2 : (255 * y + 127) / 255 = y := by omega
  have z3 : (d * (255 - s) + d * s + 127) / 255 = d := by rw [← Int.mul_add]; omega
  have z4 : (d * (255 - 0) + f * 0 + 127) / 255 = d := by omega
  have z5 : (d * (255 - 255) + f * 255 + 127) / 255 = f := by omega
  rw [z1] at y2
  rw [z2] at y3
  rw [z3] at x3
  rw [z4] at x4
  rw [z5] at x5
  have b1 : Bn (k + k + 1) ((x * y + 127) / 255) := (hx.mul hy).near
  have b2 : Bn (k + (k + 11) + 1 + 1) ((d * (255 - q) + f * q + 127) / 255) := ((hd.mul lq).add ((hf.mul hq).mono (by omega))).near
  have b3 : Bn (k + 10 + 1 + 1) ((d * (255 - s) + f * s + 127) / 255) := ((hd.mul ls2).add (hf.mul ls)).near
  have a1 := r_nearest (near_near (x * y)) (l255.ok b1 (by omega))
  have a2 := r_nearest (near_near (d * (255 - q) + f * q)) (l255.ok b2 (by omega))
  have a3 := r_nearest (near_near (d * (255 - s) + f * s)) (l255.ok b3 (by omega))
  have i1 := r_is x
  have i2 := r_is y
  have i3 := r_is d
  have i4 := r_is f
  have w : (if f < d then f else d) ≤ (d * (255 - s) + f * s + 127) / 255 ∧ (d * (255 - s) + f * s + 127) / 255 ≤ (if d < f then f else d) := by
    by_cases h : d < f
    · have := mix_lo hs (Int.le_of_lt h)
      rw [if_neg (by omega), if_pos h]; exact this
    · have := mix_hi hs (show f ≤ d by omega)
      rw [if_neg h]
      split
      · exact this
      · omega
  have w1 := w.1
  have w2 := w.2
  generalize (d * (255 - s) + f * s + 127) / 255 = G at *
  have g1 : mSet 6 (mFn 3 m_mix (mCons (mVar 2) (mCons (mVar 3) (mCons (mVar 5) (pur []))))) [.dat (.int x), .dat (.int y), .dat (.int d), .dat (.int f), .dat (.int q), .dat (.int s), .un] = some (.nx [.dat (.int x), .dat (.int y), .dat (.int d), .dat (.int f), .dat (.int q), .dat (.int s), .dat (.int G)]) := by
    simp [mSet, x2, mIfS, mThen, mNot, mB, mFn, mCons, mVar, bnd, pur, lft, ansM, asB, mNil, mAnd, mOr, mAndV, mOrV, mRet, mTup, runP, ansOf, env0]
  have e : g_law_products [.dat (.int x), .dat (.int y), .dat (.int d), .dat (.int f), .dat (.int q), .dat (.int s), .un] = some (.rt (.bl true) [.dat (.int x), .dat (.int y), .dat (.int d), .dat (.int f), .dat (.int q), .dat (.int s), .dat (.int G)]) := by
    unfold g_law_products
    refine (seq_nx g1).trans ?_
    refine (seq_nx (ε' := [.dat (.int x), .dat (.int y), .dat (.int d), .dat (.int f), .dat (.int q), .dat (.int s), .dat (.int G)]) ?_).trans ?_
    · simp [y1, y2, y3, a1, i1, i2, m1, mOp, gMul, gI, mIfS, mThen, mNot, mB, mFn, mCons, mVar, bnd, pur, lft, ansM, asB, mNil, mAnd, mOr, mAndV, mOrV, mRet, mTup, runP, ansOf, env0]
    refine (seq_nx (ε' := [.dat (.int x), .dat (.int y), .dat (.int d), .dat (.int f), .dat (.int q), .dat (.int s), .dat (.int G)]) ?_).trans ?_
    · simp [x1, x3, a2, i3, m4, m5, mOp, gMul, gAdd, DL.gSub, gI, mIfS, mThen, mNot, mB, mFn, mCons, mVar, bnd, pur, lft, ansM, asB, mNil, mAnd, mOr, mAndV, mOrV, mRet, mTup, runP, ansOf, env0]
    refine (seq_nx (ε' := [.dat (.int x), .dat (.int y), .dat (.int d), .dat (.int f), .dat (.int q), .dat (.int s), .dat (.int G)]) ?_).trans ?_
    · simp [a3, m6, m7, w1, w2, mOp, gMul, gAdd, DL.gSub, gI, mChain, mCall, gTwo, gMin2, gMax2, gLe, mIfS, mThen, mNot, mB, mFn, mCons, mVar, bnd, pur, lft, ansM, asB, mNil, mAnd, mOr, mAndV, mOrV, mRet, mTup, runP, ansOf, env0]
    · simp [x4, x5, i3, i4, mIfS, mThen, mNot, mB, mFn, mCons, mVar, bnd, pur, lft, ansM, asB, mNil, mAnd, mOr, mAndV, mOrV, mRet, mTup, runP, ansOf, env0]
  exact congrArg ansOf e
end

section
variable {k : Nat}
theorem two_ok {n : Nat} {x : Int} (h : Bn n x) (hn : n ≤ 10000000) : mulOk 2 x = true := (Bn.lit (by decide) : Bn 10 2).ok h (by omega)
theorem shift_div {c t r : Int} (hc : 0 < c) : (2 * (c * t + r) + c) / (2 * c) = t + (2 * r + c) / (2 * c) := by
  have e : 2 * (c * t + r) + c = (2 * r + c) + 2 * c * t := by
    rw [Int.mul_add, Int.mul_assoc]; omega
  rw [e, Int.add_mul_ediv_left _ _ (by omega), Int.add_comm]
theorem quo_r {c r : Int} (hc : 0 < c) (h0 : 0 ≤ r) (h1 : r < c) : (2 * r + c) / (2 * c) = if c ≤ 2 * r then 1 else 0 := by
  split
  · refine Int.le_antisymm ?_ ?_
    · exact Int.lt_add_one_iff.mp (Int.ediv_lt_of_lt_mul (by omega) (by omega))
    · exact Int.le_ediv_of_mul_le (by omega) (by omega)
  · exact Int.ediv_eq_zero_of_lt (by omega) (by omega)
theorem Bn.quo {n : Nat} {x d : Int} (h : Bn n x) : Bn n (x / d) := h.le (Int.natAbs_ediv_le_natAbs x d)
theorem r_quotients {total count t cell : Int} (hk : k ≤ 2000000) (h1 : Bn k total) (h2 : Bn k count) (h3 : Bn k t) (hc : 0 < count) : m_law_quotients [.int total, .int count, .int t, .int cell] = some (.ret (.bl true)) := by
  obtain ⟨v, e1, hv⟩ := r_menu (cell := cell) (many := count) (rows := [count / 2, (if (count + 1) / 2 < count - 1 then (count + 1) / 2 else count - 1), count - 1, 0]) (by simp) hc
  have hv : 0 ≤ v ∧ v < count := by
    rcases hv with hv | hv
    · simp only [List.mem_cons, List.not_mem_nil, or_false] at hv
      rcases hv with rfl | rfl | rfl | rfl
      · omega
      · split <;> omega
      · omega
      · omega
    · exact hv
  have e1' : m_law_menu [.int cell, .lst [.int (count / 2), .int (if (count + 1) / 2 < count - 1 then (count + 1) / 2 else count - 1), .int (count - 1), .int 0], .int count] = some (.ret (.int v)) := e1
  have hv' : Bn k v := h2.le (by omega)
  have bt : Bn (k + k) (count * t) := h2.mul h3
  have bs : Bn (k + k + 1) (count * t + v) := bt.add (hv'.mono (by omega))
  have q2 := two_ok h2 (by omega)
  have q1 := r_mean hc (two_ok h1 (by omega)) q2
  have q3 := r_mean (t := count * t) hc (two_ok bt (by omega)) q2
  have q4 := r_mean (t := count * t + v) hc (two_ok bs (by omega)) q2
  have z1 : (2 * (count * t) + count) / (2 * count) = t := by
    have := shift_div (t := t) (r := 0) hc
    rw [Int.add_zero] at this
    rw [this, quo_r hc (Int.le_refl 0) hc, if_neg (by omega), Int.add_zero]
  have z2 : (2 * (count * t + v) + count) / (2 * count) = t + (if count ≤ 2 * v then 1 else 0) := by
    rw [shift_div hc, quo_r hc hv.1 hv.2]
  rw [z1] at q3
  rw [z2] at q4
  have b2 : Bn (10 + k) (2 * count) := (Bn.lit (by decide) : Bn 10 2).mul h2
  have b3 : Bn (10 + k + 1) ((2 * total + count) / (2 * count)) := (((Bn.lit (by decide) : Bn 10 2).mul h1).add (h2.mono (by omega))).quo
  have a1 := r_rounded (rnd_ok (t := total) hc) q2 (b2.ok b3 (by omega)) (two_ok h1 (by omega))
  have m1 : mulOk count t = true := h2.ok h3 (by omega)
  have m2 := two_ok hv' (by omega)
  have i1 := r_is t
  have i2 := r_is (t + (if count ≤ 2 * v then 1 else 0))
  generalize (2 * total + count) / (2 * count) = G at *
  have g1 : mSet 4 (mFn 3 m_law_menu (mCons (mVar 3) (mCons (mLst (mCons (mOp gDiv (mVar 1) (pur (.int 2))) (mCons (mCall (gTwo gMin2) (mCons (mOp DL.gSub (mVar 1) (pur (.int 1))) (mCons (mOp gDiv (mOp gAdd (mVar 1) (pur (.int 1))) (pur (.int 2))) (pur [])))) (mCons (mOp DL.gSub (mVar 1) (pur (.int 1))) (mCons (pur (.int 0)) (pur [])))))) (mCons (mVar 1) (pur []))))) [.dat (.int total), .dat (.int count), .dat (.int t), .dat (.int cell), .un] = some (.nx [.dat (.int total), .dat (.int count), .dat (.int t), .dat (.int cell), .dat (.int v)]) := by
    simp [mSet, mLst, e1', mOp, gDiv, gAdd, DL.gSub, gI, mCall, gTwo, gMin2, mIfS, mThen, mNot, mB, mFn, mCons, mVar, bnd, pur, lft, ansM, asB, mNil, mAnd, mOr, mAndV, mOrV, mRet, mTup, runP, ansOf, env0]
  have e : g_law_quotients [.dat (.int total), .dat (.int count), .dat (.int t), .dat (.int cell), .un] = some (.rt (.bl true) [.dat (.int total), .dat (.int count), .dat (.int t), .dat (.int cell), .dat (.int v)]) := by
    unfold g_law_quotients
    refine (seq_nx g1).trans ?_
    refine (seq_nx (ε' := [.dat (.int total), .dat (.int count), .dat (.int t), .dat (.int cell), .dat (.int v)]) ?_).trans ?_
    · simp [q1, q3, a1, i1, m1, mOp, gMul, gI, mIfS, mThen, mNot, mB, mFn, mCons, mVar, bnd, pur, lft, ansM, asB, mNil, mAnd, mOr, mAndV, mOrV, mRet, mTup, runP, ansOf, env0]
    · simp [q4, i2, m1, m2, mOp, gMul, gAdd, gGe, gI, mCall, gOne, gInt, mIfS, mThen, mNot, mB, mFn, mCons, mVar, bnd, pur, lft, ansM, asB, mNil, mAnd, mOr, mAndV, mOrV, mRet, mTup, runP, ansOf, env0]
  exact congrArg ansOf e
theorem r_straights {c a : Int} (hk : k ≤ 2000000) (h1 : Bn k c) (h2 : Bn k a) : m_law_straights [.int c, .int a] = some (.ret (.bl true)) := by
  have hs : ∃ s : Int, s = 1 + absI a ∧ 0 < s ∧ Bn (k + 1) s := by
    refine ⟨_, rfl, ?_, ?_⟩
    · have := absI_nn a; omega
    · unfold Bn at *
      rw [Nat.pow_succ]
      have : 0 < 2 ^ k := Nat.pow_pos (by decide)
      unfold absI
      split <;> omega
  obtain ⟨s, es, s0, bs⟩ := hs
  have l510 : Bn 10 510 := .lit (by decide)
  have l255 : Bn 10 255 := .lit (by decide)
  have l2 : Bn 10 2 := .lit (by decide)
  have mc : mulOk 510 c = true := l510.ok h1 (by omega)
  have mc2 : mulOk 255 c = true := l255.ok h1 (by omega)
  have ms : mulOk 510 s = true := l510.ok bs (by omega)
  have ma : mulOk 2 a = true := two_ok h2 (by omega)
  have ms2 : mulOk 2 s = true := two_ok bs (by omega)
  have q1 := r_straight s0 mc ms2
  have q2 := r_straight s0 ms ms2
  have q3 := r_straight (c := 0) s0 (l510.ok (.lit (by decide) : Bn 10 0) (by omega)) ms2
  have q4 := r_straight0 (c := c) (a := 0) (by decide)
  have q5 := r_straight0 (c := c) (a := -s) (by omega)
  have z2 : (510 * s + s) / (2 * s) = 255 := by
    refine Int.le_antisymm ?_ ?_
    · exact Int.lt_add_one_iff.mp (Int.ediv_lt_of_lt_mul (by omega) (by omega))
    · exact Int.le_ediv_of_mul_le (by omega) (by omega)
  have z3 : (510 * 0 + s) / (2 * s) = 0 := Int.ediv_eq_zero_of_lt (by omega) (by omega)
  rw [z2] at q2
  rw [z3] at q3
  have rn : ∀ b : Int, 0 < b → Rnd ((510 * c + b) / (2 * b)) (255 * c) b := fun b hb => by
    have e : 510 * c = 2 * (255 * c) := by omega
    rw [e]; exact rnd_ok hb
  have b255 : Bn (10 + k) (255 * c) := l255.mul h1
  have m255 : mulOk 2 (255 * c) = true := two_ok b255 (by omega)
  have bq : ∀ b : Int, Bn (k + 1) b → Bn (10 + (k + 1) + 1) ((510 * c + b) / (2 * b)) := fun b hb => (((l510.mul h1).mono (by omega) : Bn (10 + (k + 1)) _).add (hb.mono (by omega))).quo
  have a1 := r_rounded (rn s s0) ms2 ((l2.mul bs).ok (bq s bs) (by omega)) m255
  have i1 := r_is 255
  have i0 := r_is 0
  have g1 : mSet 2 (mOp gAdd (pur (.int 1)) (mCall (gOne gAbs) (mCons (mVar 1) (pur [])))) [.dat (.int c), .dat (.int a), .un, .un] = some (.nx [.dat (.int c), .dat (.int a), .dat (.int s), .un]) := by
    rw [es]
    simp [mSet, mOp, gAdd, gI, mCall, gOne, gAbs, absI, mIfS, mThen, mNot, mB, mFn, mCons, mVar, bnd, pur, lft, ansM, asB, mNil, mAnd, mOr, mAndV, mOrV, mRet, mTup, runP, ansOf, env0]
  have fin : ∀ G : Int, mSet 3 (mFn 2 m_straight (mCons (mVar 0) (mCons (mVar 1) (pur [])))) [.dat (.int c), .dat (.int a), .dat (.int s), .un] = some (.nx [.dat (.int c), .dat (.int a), .dat (.int s), .dat (.int G)]) →
      mIfS (mAnd (mB (mOp gGt (mVar 1) (pur (.int 0)))) (mNot (mB (mFn 3 m_law_rounded (mCons (mVar 3) (mCons (mOp gMul (pur (.int 255)) (mVar 0)) (mCons (mVar 1) (pur [])))))))) (mRet (pur (.bl false))) mNil [.dat (.int c), .dat (.int a), .dat (.int s), .dat (.int G)] = some (.nx [.dat (.int c), .dat (.int a), .dat (.int s), .dat (.int G)]) →
      mIfS (mAnd (mB (mOp gLe (mVar 1) (pur (.int 0)))) (mNot (mB (mFn 2 m_law_is (mCons (mVar 3) (mCons (pur (.int 0)) (pur []))))))) (mRet (pur (.bl false))) mNil [.dat (.int c), .dat (.int a), .dat (.int s), .dat (.int G)] = some (.nx [.dat (.int c), .dat (.int a), .dat (.int s), .dat (.int G)]) → m_law_straights [.int c, .int a] = some (.ret (.bl true)) := fun G f1 f2 f3 => by
    have e : g_law_straights [.dat (.int c), .dat (.int a), .un, .un] = some (.rt (.bl true) [.dat (.int c), .dat (.int a), .dat (.int s), .dat (.int G)]) := by
      unfold g_law_straights
      refine (seq_nx g1).trans ((seq_nx f1).trans ((seq_nx f2).trans ((seq_nx f3).trans ?_)))
      refine (seq_nx (ε' := [.dat (.int c), .dat (.int a), .dat (.int s), .dat (.int G)]) ?_).trans ?_
      · simp [q1, q2, a1, i1, mc2, mOp, gMul, gI, mIfS, mThen, mNot, mB, mFn, mCons, mVar, bnd, pur, lft, ansM, asB, mNil, mAnd, mOr, mAndV, mOrV, mRet, mTup, runP, ansOf, env0]
      · simp [q3, q4, q5, i0, mUn, gNeg, mIfS, mThen, mNot, mB, mFn, mCons, mVar, bnd, pur, lft, ansM, asB, mNil, mAnd, mOr, mAndV, mOrV, mRet, mTup, runP, ansOf, env0]
    exact congrArg ansOf e
  by_cases h : 0 < a
  · have q0 := r_straight h mc ma
    have a0 := r_rounded (rn a h) ma ((l2.mul h2).ok (bq a (h2.mono (by omega))) (by omega)) m255
    have h' : ¬ a ≤ 0 := by omega
    refine fin ((510 * c + a) / (2 * a)) (by simp [mSet, q0, mIfS, mThen, mNot, mB, mFn, mCons, mVar, bnd, pur, lft, ansM, asB, mNil, mAnd, mOr, mAndV, mOrV, mRet, mTup, runP, ansOf, env0]) ?_ ?_
    · simp [h, a0, mc2, mOp, gMul, gGt, gI, mIfS, mThen, mNot, mB, mFn, mCons, mVar, bnd, pur, lft, ansM, asB, mNil, mAnd, mOr, mAndV, mOrV, mRet, mTup, runP, ansOf, env0]
    · simp [h', mOp, gLe, gI, mIfS, mThen, mNot, mB, mFn, mCons, mVar, bnd, pur, lft, ansM, asB, mNil, mAnd, mOr, mAndV, mOrV, mRet, mTup, runP, ansOf, env0]
  · have q0 := r_straight0 (c := c) h
    have h' : a ≤ 0 := by omega
    refine fin 0 (by simp [mSet, q0, mIfS, mThen, mNot, mB, mFn, mCons, mVar, bnd, pur, lft, ansM, asB, mNil, mAnd, mOr, mAndV, mOrV, mRet, mTup, runP, ansOf, env0]) ?_ ?_
    · simp [h, mOp, gMul, gGt, gI, mIfS, mThen, mNot, mB, mFn, mCons, mVar, bnd, pur, lft, ansM, asB, mNil, mAnd, mOr, mAndV, mOrV, mRet, mTup, runP, ansOf, env0]
    · simp [h', i0, mOp, gLe, gI, mIfS, mThen, mNot, mB, mFn, mCons, mVar, bnd, pur, lft, ansM, asB, mNil, mAnd, mOr, mAndV, mOrV, mRet, mTup, runP, ansOf, env0]
end

theorem r_hold (v low high : Int) : m_hold [.int v, .int low, .int high] = some (.ret (.int (if v < low then low else if high < v then high else v))) := by
  by_cases h1 : v < low <;> by_cases h2 : high < v <;> simp [m_hold, g_hold, h1, h2, runP, runO, runQ, ansOf, outQ, env0, envQ, mSeq, mNil, mRet, mRetO, mRetOwn, mRetN, mSet, mSetO, mAsg, mIfS, mThen, mDrop, mApp, mPut, mFor, forGo, mAug, mFn, mFnO, mFnQ, bnd, pur, lft, mCons, mVar, mOp, mUn, mTup, mLst, mLstO, mB, asB, mNot, mAnd, mOr, mAndV, mOrV, mNotV, mIf, mChain, mCall, ansM, mPop, mLenN, mItemN, mSl, mSlO, mCatO, mListO, mListRev, mFz, mLc, lcGo, wipeE, backE, gdName, gdTup, setL, Ent.get, Ent.put, gLen, gOne, gTwo, gI, gAdd, DL.gSub, gMul, gDiv, gMod, gPow, gLt, gLe, gGt, gGe, gNeg, gEqS, gNeS, gIsN, gInt, gAbs, gMin2, gMax2, gStr, gTuple, gList, gIx, seqOf, lstOf, tupOf, asI, rng1, rng2, gSlL, gSlT, gCatS, gCatL, gCatT, tyName, mTruth, gTruth, mDct, intKeys, gKd, gUpper, gdLst, mNewB, mDGet, mDPut, dkAt, keyD]
theorem sort3 {low at_ high : Int} (h : low ≤ high) : gSorted (.lst [.int low, .int at_, .int high]) = some (.lst ((sortI [low, at_, high]).map D.int)) := rfl
theorem mid3 {low at_ high : Int} (h : low ≤ high) : ∃ x y, sortI [low, at_, high] = [x, (if at_ < low then low else if high < at_ then high else at_), y] := by
  by_cases h1 : at_ < low <;> by_cases h2 : high < at_
  · omega
  · exact ⟨at_, high, by simp [sortI, ins1, h1, h2, h, show at_ ≤ high by omega, show ¬ low ≤ at_ by omega]⟩
  · exact ⟨low, at_, by simp [sortI, ins1, h1, h2, h, show ¬ at_ ≤ high by omega]⟩
  · exact ⟨low, high, by simp [sortI, ins1, h1, h2, h, show at_ ≤ high by omega, show low ≤ at_ by omega]⟩
theorem ho_step {v low high at_ : Int} (h : low ≤ high) : bd_law_holds_1 [.dat (.int v), .dat (.int low), .dat (.int high), .dat (.int at_)] = some (.nx [.dat (.int v), .dat (.int low), .dat (.int high), .dat (.int at_)]) := by
  obtain ⟨x, y, e⟩ := mid3 (at_ := at_) h
  have s := sort3 (at_ := at_) h
  rw [e] at s
  have i : gIx (.lst [.int x, .int (if at_ < low then low else if high < at_ then high else at_), .int y]) (.int 1) = some (.int (if at_ < low then low else if high < at_ then high else at_)) := rfl
  have q := r_hold at_ low high
  have w := r_is (if at_ < low then low else if high < at_ then high else at_)
  generalize (if at_ < low then low else if high < at_ then high else at_) = M at *
  simp [bd_law_holds_1, q, w, s, i, mOp, mCall, gOne, mLst, mIfS, mThen, mNot, mB, mFn, mCons, mVar, bnd, pur, lft, ansM, asB, mNil, mAnd, mOr, mAndV, mOrV, mRet, mTup, runP, ansOf, env0]
theorem r_holds {v low high : Int} (h : low ≤ high) : m_law_holds [.int v, .int low, .int high] = some (.ret (.bl true)) := by
  have lp : forGo (gdName 3) bd_law_holds_1 [.int v, .int (low - 1), .int low, .int high, .int (high + 1)] [.dat (.int v), .dat (.int low), .dat (.int high), .un] = some (.nx [.dat (.int v), .dat (.int low), .dat (.int high), .dat (.int (high + 1))]) := by
    refine (for_step (i := 3) (ho_step (at_ := v) h)).trans ?_
    refine (for_step (i := 3) (ho_step (at_ := low - 1) h)).trans ?_
    refine (for_step (i := 3) (ho_step (at_ := low) h)).trans ?_
    refine (for_step (i := 3) (ho_step (at_ := high) h)).trans ?_
    exact (for_step (i := 3) (ho_step (at_ := high + 1) h)).trans rfl
  have l2 : (mFor (bnd (mTup (mCons (mVar 0) (mCons (mOp DL.gSub (mVar 1) (pur (.int 1))) (mCons (mVar 1) (mCons (mVar 2) (mCons (mOp gAdd (mVar 2) (pur (.int 1))) (pur []))))))) fun d => lft (tupOf d)) (gdName 3) bd_law_holds_1) [.dat (.int v), .dat (.int low), .dat (.int high), .un] = _ := (for_run rfl).trans lp
  have e : g_law_holds [.dat (.int v), .dat (.int low), .dat (.int high), .un] = some (.rt (.bl true) [.dat (.int v), .dat (.int low), .dat (.int high), .dat (.int (high + 1))]) := (seq_nx l2).trans rfl
  exact congrArg ansOf e
theorem nil_run {ε : List Ent} : (pur [] : Mo (List D)) ε = some (.ok [] ε) := rfl
theorem cons_run {f : Mo D} {fs : Mo (List D)} {ε ε1 ε2 : List Ent} {d : D} {ds : List D} (h1 : f ε = some (.ok d ε1)) (h2 : fs ε1 = some (.ok ds ε2)) : mCons f fs ε = some (.ok (d :: ds) ε2) := by
  simp [mCons, bnd, pur, h1, h2]
theorem fn_run {n : Nat} {m : List D → Option Ans} {fs : Mo (List D)} {ε ε1 : List Ent} {d : D} {ds : List D} (h : fs ε = some (.ok ds ε1)) (hl : ds.length = n) (hm : m ds = some (.ret d)) : mFn n m fs ε = some (.ok d ε1) := by
  simp [mFn, bnd, h, hl, hm, ansM]
theorem call_run {g : List D → Option D} {fs : Mo (List D)} {ε ε1 : List Ent} {d : D} {ds : List D} (h : fs ε = some (.ok ds ε1)) (hm : g ds = some d) : mCall g fs ε = some (.ok d ε1) := by
  simp [mCall, bnd, h, hm, lft]
theorem op_run {g : D → D → Option D} {f1 f2 : Mo D} {ε ε1 ε2 : List Ent} {a b c : D} (h1 : f1 ε = some (.ok a ε1)) (h2 : f2 ε1 = some (.ok b ε2)) (h : g a b = some c) : mOp g f1 f2 ε = some (.ok c ε2) := by
  simp [mOp, bnd, h1, h2, h, lft]
theorem ifor_nx {F1 F2 : Mo D} {A : MoS} {ε : List Ent} (h1 : F1 ε = some (.ok (.bl true) ε)) (h2 : F2 ε = some (.ok (.bl true) ε)) : mIfS (mOr (mNot (mB F1)) (mNot (mB F2))) A mNil ε = some (.nx ε) := by
  simp [mIfS, mThen, mOr, mNot, mB, bnd, lft, asB, h1, h2, mNil, pur]
theorem set_run {i : Nat} {f : Mo D} {ε ε1 : List Ent} {d : D} (h : f ε = some (.ok d ε1)) : mSet i f ε = some (.nx (ε1.set i (.dat d))) := by
  simp [mSet, mThen, h]
theorem ret_run {f : Mo D} {ε ε1 : List Ent} {d : D} (h : f ε = some (.ok d ε1)) : mRet f ε = some (.rt d ε1) := by
  simp [mRet, mThen, h]
def rowOf (ns : List Int) : List D := (List.range 18).map fun k : Nat => D.int (cellOf ns k)
theorem row_at (ns : List Int) (i : Nat) (h : i < 18) : atI (rowOf ns) (i : Int) = some (.int (cellOf ns i)) := atI_nat (by unfold rowOf; rw [List.getElem?_map, List.getElem?_range h]; rfl)
theorem row_it (ns : List Int) (i : Nat) (h : i < 18) (e0 e2 e3 : Ent) : mItemN 1 (pur (.int (i : Int))) [e0, .own (rowOf ns), e2, e3] = some (.ok (.int (cellOf ns i)) [e0, .own (rowOf ns), e2, e3]) := by
  have := row_at ns i h
  simp [mItemN, pur, bnd, Ent.get, this]
theorem cell_bn {ns : List Int} (hz : ∀ z ∈ ns, Builtin.Int.intBits z ≤ 1048576) (n : Nat) (hn : n = 1048576) (i : Nat) : Bn n (cellOf ns i) := by
  unfold cellOf
  cases e : ns[i]? with
  | none => exact Nat.pow_pos (by decide)
  | some z =>
    have hm : z ∈ ns := List.mem_of_getElem? e
    have hb := hz z hm
    rw [← hn] at hb
    show z.natAbs < 2 ^ n
    unfold Builtin.Int.intBits at hb
    by_cases h0 : z.natAbs = 0
    · rw [h0]; exact Nat.pow_pos (by decide)
    · have : z.natAbs.log2 < n := by
        split at hb
        · rename_i q; exact absurd (by simpa using q) (show ¬ z = 0 by omega)
        · omega
      exact (Nat.log2_lt h0).mp this
theorem law_row (ns : List Int) : (mSetO 1 bd_law_2) [.dat (.rdl (ns.map D.int)), .un, .un, .un] = some (.nx [.dat (.rdl (ns.map D.int)), .own (rowOf ns), .un, .un]) := by
  have r : rng1 [.int 18] = some [.int 0, .int 1, .int 2, .int 3, .int 4, .int 5, .int 6, .int 7, .int 8, .int 9, .int 10, .int 11, .int 12, .int 13, .int 14, .int 15, .int 16, .int 17] := (rng_nat 18 (by decide)).trans rfl
  have c0 : m_law_cell [.rdl (ns.map D.int), .int 0] = _ := r_cell ns 0
  have c1 : m_law_cell [.rdl (ns.map D.int), .int 1] = _ := r_cell ns 1
  have c2 : m_law_cell [.rdl (ns.map D.int), .int 2] = _ := r_cell ns 2
  have c3 : m_law_cell [.rdl (ns.map D.int), .int 3] = _ := r_cell ns 3
  have c4 : m_law_cell [.rdl (ns.map D.int), .int 4] = _ := r_cell ns 4
  have c5 : m_law_cell [.rdl (ns.map D.int), .int 5] = _ := r_cell ns 5
  have c6 : m_law_cell [.rdl (ns.map D.int), .int 6] = _ := r_cell ns 6
  have c7 : m_law_cell [.rdl (ns.map D.int), .int 7] = _ := r_cell ns 7
  have c8 : m_law_cell [.rdl (ns.map D.int), .int 8] = _ := r_cell ns 8
  have c9 : m_law_cell [.rdl (ns.map D.int), .int 9] = _ := r_cell ns 9
  have c10 : m_law_cell [.rdl (ns.map D.int), .int 10] = _ := r_cell ns 10
  have c11 : m_law_cell [.rdl (ns.map D.int), .int 11] = _ := r_cell ns 11
  have c12 : m_law_cell [.rdl (ns.map D.int), .int 12] = _ := r_cell ns 12
  have c13 : m_law_cell [.rdl (ns.map D.int), .int 13] = _ := r_cell ns 13
  have c14 : m_law_cell [.rdl (ns.map D.int), .int 14] = _ := r_cell ns 14
  have c15 : m_law_cell [.rdl (ns.map D.int), .int 15] = _ := r_cell ns 15
  have c16 : m_law_cell [.rdl (ns.map D.int), .int 16] = _ := r_cell ns 16
  have c17 : m_law_cell [.rdl (ns.map D.int), .int 17] = _ := r_cell ns 17
  have e : rowOf ns = [.int (cellOf ns 0), .int (cellOf ns 1), .int (cellOf ns 2), .int (cellOf ns 3), .int (cellOf ns 4), .int (cellOf ns 5), .int (cellOf ns 6), .int (cellOf ns 7), .int (cellOf ns 8), .int (cellOf ns 9), .int (cellOf ns 10), .int (cellOf ns 11), .int (cellOf ns 12), .int (cellOf ns 13), .int (cellOf ns 14), .int (cellOf ns 15), .int (cellOf ns 16), .int (cellOf ns 17)] := rfl
  rw [e]
  simp [bd_law_2, bd_law_1, r, c0, c1, c2, c3, c4, c5, c6, c7, c8, c9, c10, c11, c12, c13, c14, c15, c16, c17, mSetO, mThen, mFn, ansM, mVar, mLc, lcGo, wipeE, backE, gdName, setL, mCons, bnd, pur, lft]
theorem law_run : ∀ ns : List Int, ns.length ≤ 63 → (∀ z ∈ ns, Builtin.Int.intBits z ≤ 1048576) → runP 4 g_law [.rdl (ns.map D.int)] = some (.ret (.bl true)) := fun ns _ hz => by
  obtain ⟨n, hn⟩ : ∃ n : Nat, n = 1048576 := ⟨_, rfl⟩
  have b : ∀ i : Nat, Bn n (cellOf ns i) := cell_bn hz n hn
  have hk : n + 1 ≤ 2000000 := by omega
  have bm : ∀ i : Nat, Bn (n + 1) (cellOf ns i) := fun i => (b i).mono (by omega)
  obtain ⟨s, e1, hv⟩ := r_menu (cell := cellOf ns 8) (many := 256) (rows := [0, 255, 1, 254, 127, 128]) (by decide) (by decide)
  have hs : 0 ≤ s ∧ s ≤ 255 := by
    rcases hv with hv | hv
    · simp at hv; omega
    · omega
  have e1' : m_law_menu [.int (cellOf ns 8), .lst [.int 0, .int 255, .int 1, .int 254, .int 127, .int 128], .int 256] = some (.ret (.int s)) := e1
  have it := row_it ns
  have p1 := r_nears (n := cellOf ns 0) (m := cellOf ns 1) (cell := cellOf ns 2) hk (bm 0) (bm 1)
  have p2 := r_products (x := cellOf ns 3) (y := cellOf ns 4) (d := cellOf ns 5) (f := cellOf ns 6) (q := cellOf ns 7) (s := s) hk (bm 3) (bm 4) (bm 5) (bm 6) (bm 7) hs
  have bc : Bn (n + 1) (1 + (if cellOf ns 10 < 0 then -(cellOf ns 10) else cellOf ns 10)) := by
    have := b 10
    unfold Bn at *
    rw [Nat.pow_succ]
    have : 0 < 2 ^ n := Nat.pow_pos (by decide)
    split <;> omega
  have p3 := r_quotients (total := cellOf ns 9) (count := 1 + (if cellOf ns 10 < 0 then -(cellOf ns 10) else cellOf ns 10)) (t := cellOf ns 11) (cell := cellOf ns 12) hk (bm 9) bc (bm 11) (by split <;> omega)
  have p4 := r_straights (c := cellOf ns 13) (a := cellOf ns 14) hk (bm 13) (bm 14)
  have p5 := r_holds (v := cellOf ns 15) (low := if cellOf ns 17 < cellOf ns 16 then cellOf ns 17 else cellOf ns 16) (high := if cellOf ns 17 > cellOf ns 16 then cellOf ns 17 else cellOf ns 16) (by split <;> split <;> omega)
  have E : ∀ (ε : List Ent), ε = [.dat (.rdl (ns.map D.int)), .own (rowOf ns), .dat (.int s), .un] → g_law [.dat (.rdl (ns.map D.int)), .un, .un, .un] = some (.rt (.bl true) ε) := fun ε hε => by
    unfold g_law
    refine (seq_nx (law_row ns)).trans ?_
    refine (seq_nx (set_run (fn_run (cons_run (it 8 (by decide) _ _ _) (cons_run (d := .lst [.int 0, .int 255, .int 1, .int 254, .int 127, .int 128]) rfl (cons_run (d := .int 256) rfl nil_run))) rfl e1'))).trans ?_
    refine (seq_nx (ifor_nx (fn_run (cons_run (it 0 (by decide) _ _ _) (cons_run (it 1 (by decide) _ _ _) (cons_run (it 2 (by decide) _ _ _) nil_run))) rfl p1) (fn_run (cons_run (it 3 (by decide) _ _ _) (cons_run (it 4 (by decide) _ _ _) (cons_run (it 5 (by decide) _ _ _) (cons_run (it 6 (by decide) _ _ _) (cons_run (it 7 (by decide) _ _ _) (cons_run (d := .int s) rfl nil_run)))))) rfl p2))).trans ?_
    refine (seq_nx (ifor_nx (fn_run (cons_run (it 9 (by decide) _ _ _) (cons_run (op_run rfl (call_run (cons_run (it 10 (by decide) _ _ _) nil_run) rfl) rfl) (cons_run (it 11 (by decide) _ _ _) (cons_run (it 12 (by decide) _ _ _) nil_run)))) rfl p3) (fn_run (cons_run (it 13 (by decide) _ _ _) (cons_run (it 14 (by decide) _ _ _) nil_run)) rfl p4))).trans ?_
    refine (ret_run (fn_run (cons_run (it 15 (by decide) _ _ _) (cons_run (call_run (cons_run (it 16 (by decide) _ _ _) (cons_run (it 17 (by decide) _ _ _) nil_run)) rfl) (cons_run (call_run (cons_run (it 16 (by decide) _ _ _) (cons_run (it 17 (by decide) _ _ _) nil_run)) rfl) nil_run))) rfl p5)).trans ?_
    rw [hε]
  exact congrArg ansOf (E _ rfl)

theorem ok_law (T : Txt P w K mg) : FnOk P w K mg base (CXX P w) 35 T.f_law T.d_law ["script"] (SpLaw K) := by
  exact fn_law (g := g_law) T.F_law sc_law (fun cdv A outer s H E C hA hr tk => (ss_cons (st_lc (i := 1) (own := [("k", 3)]) rfl sc_law.nd rfl rfl (sw_true rfl rfl rfl (by decide +kernel)) (ei_range1 (ea_cons ev_int ea_nil) fun _ p => pi_range1 (by rfl) T.z_range p) (blkOk_by (own := [("k", 3)]) (N := N_law) (sc := defScope s_law) (by decide +kernel)) (fun _ _ _ _ _ => (pg_name (i := 3) sc_law.nd rfl (by first | exact Or.inl rfl | exact Or.inr rfl))) (sg_name (i := 3)) (fun _ _ _ _ _ => pt_nilD) (fun _ _ _ _ _ => (cl_fn (ok_law_cell T) takes0 (hr.mono (by decide)) (by rfl) T.m_law_cell T.F_law_cell.kp T.b_law_cell (ea_cons (ev_var 0 (pv 0)) (ea_cons (ev_var 3 (pv 3)) ea_nil)))) (by decide) (by decide))
      (ss_cons (st_set (fun _ p => ps_set (i := 2) sc_law.nd rfl (by first | exact Or.inl rfl | exact Or.inr rfl) p) (cl_fn (ok_law_menu T) tk (hr.mono (by decide)) (by rfl) T.m_law_menu T.F_law_menu.kp T.b_law_menu (ea_cons (ev_itemN 1 (fun _ _ => rfl) ev_int fun _ _ q => pe_ix ix_seq (pv 1) q (fun _ _ => rfl)) (ea_cons (ev_lst (ea_cons ev_int (ea_cons ev_int (ea_cons ev_int (ea_cons ev_int (ea_cons ev_int (ea_cons ev_int ea_nil))))))) (ea_cons ev_int ea_nil)))))
      (ss_cons (st_if (te_w (tw_or (te_not (te_val (cl_fn (ok_law_nears T) tk (hr.mono (by decide)) (by rfl) T.m_law_nears T.F_law_nears.kp T.b_law_nears (ea_cons (ev_itemN 1 (fun _ _ => rfl) ev_int fun _ _ q => pe_ix ix_seq (pv 1) q (fun _ _ => rfl)) (ea_cons (ev_itemN 1 (fun _ _ => rfl) ev_int fun _ _ q => pe_ix ix_seq (pv 1) q (fun _ _ => rfl)) (ea_cons (ev_itemN 1 (fun _ _ => rfl) ev_int fun _ _ q => pe_ix ix_seq (pv 1) q (fun _ _ => rfl)) ea_nil)))))) (tw_or1 (te_not (te_val (cl_fn (ok_law_products T) tk (hr.mono (by decide)) (by rfl) T.m_law_products T.F_law_products.kp T.b_law_products (ea_cons (ev_itemN 1 (fun _ _ => rfl) ev_int fun _ _ q => pe_ix ix_seq (pv 1) q (fun _ _ => rfl)) (ea_cons (ev_itemN 1 (fun _ _ => rfl) ev_int fun _ _ q => pe_ix ix_seq (pv 1) q (fun _ _ => rfl)) (ea_cons (ev_itemN 1 (fun _ _ => rfl) ev_int fun _ _ q => pe_ix ix_seq (pv 1) q (fun _ _ => rfl)) (ea_cons (ev_itemN 1 (fun _ _ => rfl) ev_int fun _ _ q => pe_ix ix_seq (pv 1) q (fun _ _ => rfl)) (ea_cons (ev_itemN 1 (fun _ _ => rfl) ev_int fun _ _ q => pe_ix ix_seq (pv 1) q (fun _ _ => rfl)) (ea_cons (ev_var 2 (pv 2)) ea_nil)))))))))))) (ss_one (st_ret ev_bl)) ss_nil)
      (ss_cons (st_if (te_w (tw_or (te_not (te_val (cl_fn (ok_law_quotients T) tk hr (by rfl) T.m_law_quotients T.F_law_quotients.kp T.b_law_quotients (ea_cons (ev_itemN 1 (fun _ _ => rfl) ev_int fun _ _ q => pe_ix ix_seq (pv 1) q (fun _ _ => rfl)) (ea_cons (ev_add ev_int (ev_cb vc_abs (ea_cons (ev_itemN 1 (fun _ _ => rfl) ev_int fun _ _ q => pe_ix ix_seq (pv 1) q (fun _ _ => rfl)) ea_nil) fun _ p => pe_callB call_abs (by rfl) T.z_abs (by decide +kernel) p)) (ea_cons (ev_itemN 1 (fun _ _ => rfl) ev_int fun _ _ q => pe_ix ix_seq (pv 1) q (fun _ _ => rfl)) (ea_cons (ev_itemN 1 (fun _ _ => rfl) ev_int fun _ _ q => pe_ix ix_seq (pv 1) q (fun _ _ => rfl)) ea_nil))))))) (tw_or1 (te_not (te_val (cl_fn (ok_law_straights T) tk hr (by rfl) T.m_law_straights T.F_law_straights.kp T.b_law_straights (ea_cons (ev_itemN 1 (fun _ _ => rfl) ev_int fun _ _ q => pe_ix ix_seq (pv 1) q (fun _ _ => rfl)) (ea_cons (ev_itemN 1 (fun _ _ => rfl) ev_int fun _ _ q => pe_ix ix_seq (pv 1) q (fun _ _ => rfl)) ea_nil)))))))) (ss_one (st_ret ev_bl)) ss_nil)
      (ss_one (st_ret (cl_fn (ok_law_holds T) tk (hr.mono (by decide)) (by rfl) T.m_law_holds T.F_law_holds.kp T.b_law_holds (ea_cons (ev_itemN 1 (fun _ _ => rfl) ev_int fun _ _ q => pe_ix ix_seq (pv 1) q (fun _ _ => rfl)) (ea_cons (ev_cb vc_min2 (ea_cons (ev_itemN 1 (fun _ _ => rfl) ev_int fun _ _ q => pe_ix ix_seq (pv 1) q (fun _ _ => rfl)) (ea_cons (ev_itemN 1 (fun _ _ => rfl) ev_int fun _ _ q => pe_ix ix_seq (pv 1) q (fun _ _ => rfl)) ea_nil)) fun _ p => pe_callB (call_min2 rfl) (by rfl) T.z_min (by decide +kernel) p) (ea_cons (ev_cb vc_max2 (ea_cons (ev_itemN 1 (fun _ _ => rfl) ev_int fun _ _ q => pe_ix ix_seq (pv 1) q (fun _ _ => rfl)) (ea_cons (ev_itemN 1 (fun _ _ => rfl) ev_int fun _ _ q => pe_ix ix_seq (pv 1) q (fun _ _ => rfl)) ea_nil)) fun _ p => pe_callB (call_max2 rfl) (by rfl) T.z_max (by decide +kernel) p) ea_nil))))))))))) law_run
end
theorem all_mk {l : PySem.W.OpenLaw} {w : World} {K : PySem.W.Frag} {h : Heap} {mg : Str → Option Value} {fa : Addr} (X : K.In h) (G : h.Ns mainGlobals mg) (hfa : mg "law" = some (.ref fa))
    {f0 : Addr} {od0 an0 : Option Addr} {sl0 : Array (Option Value)} {oc0 kV0 dc0 pm0 cd0 ct0 : Value} (a0 : PySem.W.nsIn K mainGlobals "near" = some (some (.ref f0)))
    (l0 : K.lookup f0 = some ⟨oc0, od0, .func (PySem.W.fnOf "near" "near" (defArgs s_near) (defBody s_near) (defScope s_near) .none kV0 dc0 pm0 an0 cd0 ct0), sl0⟩) (c0 : PySem.W.codeIn K cd0 "near" = true)
    {f1 : Addr} {od1 an1 : Option Addr} {sl1 : Array (Option Value)} {oc1 kV1 dc1 pm1 cd1 ct1 : Value} (a1 : PySem.W.nsIn K mainGlobals "mul" = some (some (.ref f1)))
    (l1 : K.lookup f1 = some ⟨oc1, od1, .func (PySem.W.fnOf "mul" "mul" (defArgs s_mul) (defBody s_mul) (defScope s_mul) .none kV1 dc1 pm1 an1 cd1 ct1), sl1⟩) (c1 : PySem.W.codeIn K cd1 "mul" = true)
    {f2 : Addr} {od2 an2 : Option Addr} {sl2 : Array (Option Value)} {oc2 kV2 dc2 pm2 cd2 ct2 : Value} (a2 : PySem.W.nsIn K mainGlobals "mix" = some (some (.ref f2)))
    (l2 : K.lookup f2 = some ⟨oc2, od2, .func (PySem.W.fnOf "mix" "mix" (defArgs s_mix) (defBody s_mix) (defScope s_mix) .none kV2 dc2 pm2 an2 cd2 ct2), sl2⟩) (c2 : PySem.W.codeIn K cd2 "mix" = true)
    {f3 : Addr} {od3 an3 : Option Addr} {sl3 : Array (Option Value)} {oc3 kV3 dc3 pm3 cd3 ct3 : Value} (a3 : PySem.W.nsIn K mainGlobals "hold" = some (some (.ref f3)))
    (l3 : K.lookup f3 = some ⟨oc3, od3, .func (PySem.W.fnOf "hold" "hold" (defArgs s_hold) (defBody s_hold) (defScope s_hold) .none kV3 dc3 pm3 an3 cd3 ct3), sl3⟩) (c3 : PySem.W.codeIn K cd3 "hold" = true)
    {f4 : Addr} {od4 an4 : Option Addr} {sl4 : Array (Option Value)} {oc4 kV4 dc4 pm4 cd4 ct4 : Value} (a4 : PySem.W.nsIn K mainGlobals "straight" = some (some (.ref f4)))
    (l4 : K.lookup f4 = some ⟨oc4, od4, .func (PySem.W.fnOf "straight" "straight" (defArgs s_straight) (defBody s_straight) (defScope s_straight) .none kV4 dc4 pm4 an4 cd4 ct4), sl4⟩) (c4 : PySem.W.codeIn K cd4 "straight" = true)
    {f5 : Addr} {od5 an5 : Option Addr} {sl5 : Array (Option Value)} {oc5 kV5 dc5 pm5 cd5 ct5 : Value} (a5 : PySem.W.nsIn K mainGlobals "mean" = some (some (.ref f5)))
    (l5 : K.lookup f5 = some ⟨oc5, od5, .func (PySem.W.fnOf "mean" "mean" (defArgs s_mean) (defBody s_mean) (defScope s_mean) .none kV5 dc5 pm5 an5 cd5 ct5), sl5⟩) (c5 : PySem.W.codeIn K cd5 "mean" = true)
    {f6 : Addr} {od6 an6 : Option Addr} {sl6 : Array (Option Value)} {oc6 kV6 dc6 pm6 cd6 ct6 : Value} (a6 : PySem.W.nsIn K mainGlobals "_law_cell" = some (some (.ref f6)))
    (l6 : K.lookup f6 = some ⟨oc6, od6, .func (PySem.W.fnOf "_law_cell" "_law_cell" (defArgs s_law_cell) (defBody s_law_cell) (defScope s_law_cell) .none kV6 dc6 pm6 an6 cd6 ct6), sl6⟩) (c6 : PySem.W.codeIn K cd6 "_law_cell" = true)
    {f7 : Addr} {od7 an7 : Option Addr} {sl7 : Array (Option Value)} {oc7 kV7 dc7 pm7 cd7 ct7 : Value} (a7 : PySem.W.nsIn K mainGlobals "_law_menu" = some (some (.ref f7)))
    (l7 : K.lookup f7 = some ⟨oc7, od7, .func (PySem.W.fnOf "_law_menu" "_law_menu" (defArgs s_law_menu) (defBody s_law_menu) (defScope s_law_menu) .none kV7 dc7 pm7 an7 cd7 ct7), sl7⟩) (c7 : PySem.W.codeIn K cd7 "_law_menu" = true)
    {f8 : Addr} {od8 an8 : Option Addr} {sl8 : Array (Option Value)} {oc8 kV8 dc8 pm8 cd8 ct8 : Value} (a8 : PySem.W.nsIn K mainGlobals "_law_whole" = some (some (.ref f8)))
    (l8 : K.lookup f8 = some ⟨oc8, od8, .func (PySem.W.fnOf "_law_whole" "_law_whole" (defArgs s_law_whole) (defBody s_law_whole) (defScope s_law_whole) .none kV8 dc8 pm8 an8 cd8 ct8), sl8⟩) (c8 : PySem.W.codeIn K cd8 "_law_whole" = true)
    {f9 : Addr} {od9 an9 : Option Addr} {sl9 : Array (Option Value)} {oc9 kV9 dc9 pm9 cd9 ct9 : Value} (a9 : PySem.W.nsIn K mainGlobals "_law_is" = some (some (.ref f9)))
    (l9 : K.lookup f9 = some ⟨oc9, od9, .func (PySem.W.fnOf "_law_is" "_law_is" (defArgs s_law_is) (defBody s_law_is) (defScope s_law_is) .none kV9 dc9 pm9 an9 cd9 ct9), sl9⟩) (c9 : PySem.W.codeIn K cd9 "_law_is" = true)
    {f10 : Addr} {od10 an10 : Option Addr} {sl10 : Array (Option Value)} {oc10 kV10 dc10 pm10 cd10 ct10 : Value} (a10 : PySem.W.nsIn K mainGlobals "_law_nearest" = some (some (.ref f10)))
    (l10 : K.lookup f10 = some ⟨oc10, od10, .func (PySem.W.fnOf "_law_nearest" "_law_nearest" (defArgs s_law_nearest) (defBody s_law_nearest) (defScope s_law_nearest) .none kV10 dc10 pm10 an10 cd10 ct10), sl10⟩) (c10 : PySem.W.codeIn K cd10 "_law_nearest" = true)
    {f11 : Addr} {od11 an11 : Option Addr} {sl11 : Array (Option Value)} {oc11 kV11 dc11 pm11 cd11 ct11 : Value} (a11 : PySem.W.nsIn K mainGlobals "_law_rounded" = some (some (.ref f11)))
    (l11 : K.lookup f11 = some ⟨oc11, od11, .func (PySem.W.fnOf "_law_rounded" "_law_rounded" (defArgs s_law_rounded) (defBody s_law_rounded) (defScope s_law_rounded) .none kV11 dc11 pm11 an11 cd11 ct11), sl11⟩) (c11 : PySem.W.codeIn K cd11 "_law_rounded" = true)
    {f12 : Addr} {od12 an12 : Option Addr} {sl12 : Array (Option Value)} {oc12 kV12 dc12 pm12 cd12 ct12 : Value} (a12 : PySem.W.nsIn K mainGlobals "_law_nears" = some (some (.ref f12)))
    (l12 : K.lookup f12 = some ⟨oc12, od12, .func (PySem.W.fnOf "_law_nears" "_law_nears" (defArgs s_law_nears) (defBody s_law_nears) (defScope s_law_nears) .none kV12 dc12 pm12 an12 cd12 ct12), sl12⟩) (c12 : PySem.W.codeIn K cd12 "_law_nears" = true)
    {f13 : Addr} {od13 an13 : Option Addr} {sl13 : Array (Option Value)} {oc13 kV13 dc13 pm13 cd13 ct13 : Value} (a13 : PySem.W.nsIn K mainGlobals "_law_products" = some (some (.ref f13)))
    (l13 : K.lookup f13 = some ⟨oc13, od13, .func (PySem.W.fnOf "_law_products" "_law_products" (defArgs s_law_products) (defBody s_law_products) (defScope s_law_products) .none kV13 dc13 pm13 an13 cd13 ct13), sl13⟩) (c13 : PySem.W.codeIn K cd13 "_law_products" = true)
    {f14 : Addr} {od14 an14 : Option Addr} {sl14 : Array (Option Value)} {oc14 kV14 dc14 pm14 cd14 ct14 : Value} (a14 : PySem.W.nsIn K mainGlobals "_law_quotients" = some (some (.ref f14)))
    (l14 : K.lookup f14 = some ⟨oc14, od14, .func (PySem.W.fnOf "_law_quotients" "_law_quotients" (defArgs s_law_quotients) (defBody s_law_quotients) (defScope s_law_quotients) .none kV14 dc14 pm14 an14 cd14 ct14), sl14⟩) (c14 : PySem.W.codeIn K cd14 "_law_quotients" = true)
    {f15 : Addr} {od15 an15 : Option Addr} {sl15 : Array (Option Value)} {oc15 kV15 dc15 pm15 cd15 ct15 : Value} (a15 : PySem.W.nsIn K mainGlobals "_law_straights" = some (some (.ref f15)))
    (l15 : K.lookup f15 = some ⟨oc15, od15, .func (PySem.W.fnOf "_law_straights" "_law_straights" (defArgs s_law_straights) (defBody s_law_straights) (defScope s_law_straights) .none kV15 dc15 pm15 an15 cd15 ct15), sl15⟩) (c15 : PySem.W.codeIn K cd15 "_law_straights" = true)
    {f16 : Addr} {od16 an16 : Option Addr} {sl16 : Array (Option Value)} {oc16 kV16 dc16 pm16 cd16 ct16 : Value} (a16 : PySem.W.nsIn K mainGlobals "_law_holds" = some (some (.ref f16)))
    (l16 : K.lookup f16 = some ⟨oc16, od16, .func (PySem.W.fnOf "_law_holds" "_law_holds" (defArgs s_law_holds) (defBody s_law_holds) (defScope s_law_holds) .none kV16 dc16 pm16 an16 cd16 ct16), sl16⟩) (c16 : PySem.W.codeIn K cd16 "_law_holds" = true)
    {f17 : Addr} {od17 an17 : Option Addr} {sl17 : Array (Option Value)} {oc17 kV17 dc17 pm17 cd17 ct17 : Value} (a17 : PySem.W.nsIn K mainGlobals "law" = some (some (.ref f17)))
    (l17 : K.lookup f17 = some ⟨oc17, od17, .func (PySem.W.fnOf "law" "law" (defArgs s_law) (defBody s_law) (defScope s_law) .none kV17 dc17 pm17 an17 cd17 ct17), sl17⟩) (c17 : PySem.W.codeIn K cd17 "law" = true)
    (S : SeerK K) (hP : l.prog.given.tree = none)
    (z_abs : PySem.W.nsIn K mainGlobals "abs" = some none)
    (z_bool : PySem.W.nsIn K mainGlobals "bool" = some none)
    (z_int : PySem.W.nsIn K mainGlobals "int" = some none)
    (z_isinstance : PySem.W.nsIn K mainGlobals "isinstance" = some none)
    (z_len : PySem.W.nsIn K mainGlobals "len" = some none)
    (z_max : PySem.W.nsIn K mainGlobals "max" = some none)
    (z_min : PySem.W.nsIn K mainGlobals "min" = some none)
    (z_range : PySem.W.nsIn K mainGlobals "range" = some none)
    (z_sorted : PySem.W.nsIn K mainGlobals "sorted" = some none) :
    ∃ fd : FuncData, (∀ (s : Shared) (v : Value), BindsTo s fd ⟨[v], []⟩ [("script", v)]) ∧ ∀ base : Heap, K.In base → base.Ns mainGlobals mg → FnOk l.prog w K mg base (L2.CX l.prog w) 35 fa fd ["script"] (SpLaw K) := by
  have e := hfa.symm.trans (PySem.W.mg_of X G a17)
  cases e
  have F0 := fun_mk (st := s_near) l0 c0 (keep_of l0)
  have b0 := F0.binds (ps := ["n"]) fun _ _ _ _ _ _ us hl => match us, hl with | [_], _ => rfl
  have F1 := fun_mk (st := s_mul) l1 c1 (keep_of l1)
  have b1 := F1.binds (ps := ["x", "y"]) fun _ _ _ _ _ _ us hl => match us, hl with | [_, _], _ => rfl
  have F2 := fun_mk (st := s_mix) l2 c2 (keep_of l2)
  have b2 := F2.binds (ps := ["d", "f", "k"]) fun _ _ _ _ _ _ us hl => match us, hl with | [_, _, _], _ => rfl
  have F3 := fun_mk (st := s_hold) l3 c3 (keep_of l3)
  have b3 := F3.binds (ps := ["v", "low", "high"]) fun _ _ _ _ _ _ us hl => match us, hl with | [_, _, _], _ => rfl
  have F4 := fun_mk (st := s_straight) l4 c4 (keep_of l4)
  have b4 := F4.binds (ps := ["c", "a"]) fun _ _ _ _ _ _ us hl => match us, hl with | [_, _], _ => rfl
  have F5 := fun_mk (st := s_mean) l5 c5 (keep_of l5)
  have b5 := F5.binds (ps := ["total", "count"]) fun _ _ _ _ _ _ us hl => match us, hl with | [_, _], _ => rfl
  have F6 := fun_mk (st := s_law_cell) l6 c6 (keep_of l6)
  have b6 := F6.binds (ps := ["script", "k"]) fun _ _ _ _ _ _ us hl => match us, hl with | [_, _], _ => rfl
  have F7 := fun_mk (st := s_law_menu) l7 c7 (keep_of l7)
  have b7 := F7.binds (ps := ["cell", "rows", "many"]) fun _ _ _ _ _ _ us hl => match us, hl with | [_, _, _], _ => rfl
  have F8 := fun_mk (st := s_law_whole) l8 c8 (keep_of l8)
  have b8 := F8.binds (ps := ["got"]) fun _ _ _ _ _ _ us hl => match us, hl with | [_], _ => rfl
  have F9 := fun_mk (st := s_law_is) l9 c9 (keep_of l9)
  have b9 := F9.binds (ps := ["got", "due"]) fun _ _ _ _ _ _ us hl => match us, hl with | [_, _], _ => rfl
  have F10 := fun_mk (st := s_law_nearest) l10 c10 (keep_of l10)
  have b10 := F10.binds (ps := ["got", "n"]) fun _ _ _ _ _ _ us hl => match us, hl with | [_, _], _ => rfl
  have F11 := fun_mk (st := s_law_rounded) l11 c11 (keep_of l11)
  have b11 := F11.binds (ps := ["got", "total", "count"]) fun _ _ _ _ _ _ us hl => match us, hl with | [_, _, _], _ => rfl
  have F12 := fun_mk (st := s_law_nears) l12 c12 (keep_of l12)
  have b12 := F12.binds (ps := ["n", "m", "cell"]) fun _ _ _ _ _ _ us hl => match us, hl with | [_, _, _], _ => rfl
  have F13 := fun_mk (st := s_law_products) l13 c13 (keep_of l13)
  have b13 := F13.binds (ps := ["x", "y", "d", "f", "k", "share"]) fun _ _ _ _ _ _ us hl => match us, hl with | [_, _, _, _, _, _], _ => rfl
  have F14 := fun_mk (st := s_law_quotients) l14 c14 (keep_of l14)
  have b14 := F14.binds (ps := ["total", "count", "t", "cell"]) fun _ _ _ _ _ _ us hl => match us, hl with | [_, _, _, _], _ => rfl
  have F15 := fun_mk (st := s_law_straights) l15 c15 (keep_of l15)
  have b15 := F15.binds (ps := ["c", "a"]) fun _ _ _ _ _ _ us hl => match us, hl with | [_, _], _ => rfl
  have F16 := fun_mk (st := s_law_holds) l16 c16 (keep_of l16)
  have b16 := F16.binds (ps := ["v", "low", "high"]) fun _ _ _ _ _ _ us hl => match us, hl with | [_, _, _], _ => rfl
  have F17 := fun_mk (st := s_law) l17 c17 (keep_of l17)
  have b17 := F17.binds (ps := ["script"]) fun _ _ _ _ _ _ us hl => match us, hl with | [_], _ => rfl
  exact ⟨_, fun s v => .of_eq rfl, fun base _ _ => ok_law { f_near := _, d_near := _, F_near := F0, m_near := PySem.W.mg_of X G a0, b_near := b0, f_mul := _, d_mul := _, F_mul := F1, m_mul := PySem.W.mg_of X G a1, b_mul := b1, f_mix := _, d_mix := _, F_mix := F2, m_mix := PySem.W.mg_of X G a2, b_mix := b2, f_hold := _, d_hold := _, F_hold := F3, m_hold := PySem.W.mg_of X G a3, b_hold := b3, f_straight := _, d_straight := _, F_straight := F4, m_straight := PySem.W.mg_of X G a4, b_straight := b4, f_mean := _, d_mean := _, F_mean := F5, m_mean := PySem.W.mg_of X G a5, b_mean := b5, f_law_cell := _, d_law_cell := _, F_law_cell := F6, m_law_cell := PySem.W.mg_of X G a6, b_law_cell := b6, f_law_menu := _, d_law_menu := _, F_law_menu := F7, m_law_menu := PySem.W.mg_of X G a7, b_law_menu := b7, f_law_whole := _, d_law_whole := _, F_law_whole := F8, m_law_whole := PySem.W.mg_of X G a8, b_law_whole := b8, f_law_is := _, d_law_is := _, F_law_is := F9, m_law_is := PySem.W.mg_of X G a9, b_law_is := b9, f_law_nearest := _, d_law_nearest := _, F_law_nearest := F10, m_law_nearest := PySem.W.mg_of X G a10, b_law_nearest := b10, f_law_rounded := _, d_law_rounded := _, F_law_rounded := F11, m_law_rounded := PySem.W.mg_of X G a11, b_law_rounded := b11, f_law_nears := _, d_law_nears := _, F_law_nears := F12, m_law_nears := PySem.W.mg_of X G a12, b_law_nears := b12, f_law_products := _, d_law_products := _, F_law_products := F13, m_law_products := PySem.W.mg_of X G a13, b_law_products := b13, f_law_quotients := _, d_law_quotients := _, F_law_quotients := F14, m_law_quotients := PySem.W.mg_of X G a14, b_law_quotients := b14, f_law_straights := _, d_law_straights := _, F_law_straights := F15, m_law_straights := PySem.W.mg_of X G a15, b_law_straights := b15, f_law_holds := _, d_law_holds := _, F_law_holds := F16, m_law_holds := PySem.W.mg_of X G a16, b_law_holds := b16, f_law := _, d_law := _, F_law := F17, m_law := PySem.W.mg_of X G a17, b_law := b17, S := S, hP := hP, z_abs := PySem.W.mg_none_of X G z_abs, z_bool := PySem.W.mg_none_of X G z_bool, z_int := PySem.W.mg_none_of X G z_int, z_isinstance := PySem.W.mg_none_of X G z_isinstance, z_len := PySem.W.mg_none_of X G z_len, z_max := PySem.W.mg_none_of X G z_max, z_min := PySem.W.mg_none_of X G z_min, z_range := PySem.W.mg_none_of X G z_range, z_sorted := PySem.W.mg_none_of X G z_sorted }⟩
end LW
open PySem PySem.W PyProof.Rows
set_option maxRecDepth 100000 in
set_option maxHeartbeats 0 in
theorem PySem.Challenge.cw_easelwork_k00_nearest_whole_numbers_holds : PySem.Challenge.rw_easelwork_k00_nearest_whole_numbers.Holds := by
  w_on; o_law; k_head; (case hw => w_witness2)
  k_fill
  refine' DL.walk_ofS (l := PySem.Challenge.rw_easelwork_k00_nearest_whole_numbers) (n := 63) (k := 35) (x := "script") (CX := fun w => L2.CX (PySem.Challenge.rw_easelwork_k00_nearest_whole_numbers).prog w) (sp := fun w K => DL.SpLaw K) rfl (by decide) rfl ⟨rfl, by decide, by decide⟩ (by decide +kernel) (fun w h Y => PySem.W.kIn_of Y) ?hB2 ?hK ?hB ?hne ?F (fun _ _ _ a ns hl hz _ hS => ⟨a, ns, rfl, hS, hl, hz, fun _ => rfl⟩) (fun w H s e s1 h => LW.cx_no _ w H s e s1 h)
  case hB2 => intro p; k_is
  case hK => exact fun _ => rfl
  case hB => exact fun _ => rfl
  case hne => rfl
  case F =>
    intro w L mg fa h hm KX G hmg
    refine' LW.all_mk KX G hmg (DL.ns_app ?a0) (DL.lk_app ?l0) (DL.code_app ?c0) (DL.ns_app ?a1) (DL.lk_app ?l1) (DL.code_app ?c1) (DL.ns_app ?a2) (DL.lk_app ?l2) (DL.code_app ?c2) (DL.ns_app ?a3) (DL.lk_app ?l3) (DL.code_app ?c3) (DL.ns_app ?a4) (DL.lk_app ?l4) (DL.code_app ?c4) (DL.ns_app ?a5) (DL.lk_app ?l5) (DL.code_app ?c5) (DL.ns_app ?a6) (DL.lk_app ?l6) (DL.code_app ?c6) (DL.ns_app ?a7) (DL.lk_app ?l7) (DL.code_app ?c7) (DL.ns_app ?a8) (DL.lk_app ?l8) (DL.code_app ?c8) (DL.ns_app ?a9) (DL.lk_app ?l9) (DL.code_app ?c9) (DL.ns_app ?a10) (DL.lk_app ?l10) (DL.code_app ?c10) (DL.ns_app ?a11) (DL.lk_app ?l11) (DL.code_app ?c11) (DL.ns_app ?a12) (DL.lk_app ?l12) (DL.code_app ?c12) (DL.ns_app ?a13) (DL.lk_app ?l13) (DL.code_app ?c13) (DL.ns_app ?a14) (DL.lk_app ?l14) (DL.code_app ?c14) (DL.ns_app ?a15) (DL.lk_app ?l15) (DL.code_app ?c15) (DL.ns_app ?a16) (DL.lk_app ?l16) (DL.code_app ?c16) (DL.ns_app ?a17) (DL.lk_app ?l17) (DL.code_app ?c17) (DL.seer_app hm ?sm1 ?sc1 ?sc2) rfl (DL.ns_app ?z_abs) (DL.ns_app ?z_bool) (DL.ns_app ?z_int) (DL.ns_app ?z_isinstance) (DL.ns_app ?z_len) (DL.ns_app ?z_max) (DL.ns_app ?z_min) (DL.ns_app ?z_range) (DL.ns_app ?z_sorted)
    (case a0 => k_is); (case l0 => k_is); (case c0 => k_is); (case a1 => k_is); (case l1 => k_is); (case c1 => k_is); (case a2 => k_is); (case l2 => k_is); (case c2 => k_is); (case a3 => k_is); (case l3 => k_is); (case c3 => k_is); (case a4 => k_is); (case l4 => k_is); (case c4 => k_is); (case a5 => k_is); (case l5 => k_is); (case c5 => k_is); (case a6 => k_is); (case l6 => k_is); (case c6 => k_is); (case a7 => k_is); (case l7 => k_is); (case c7 => k_is); (case a8 => k_is); (case l8 => k_is); (case c8 => k_is); (case a9 => k_is); (case l9 => k_is); (case c9 => k_is); (case a10 => k_is); (case l10 => k_is); (case c10 => k_is); (case a11 => k_is); (case l11 => k_is); (case c11 => k_is); (case a12 => k_is); (case l12 => k_is); (case c12 => k_is); (case a13 => k_is); (case l13 => k_is); (case c13 => k_is); (case a14 => k_is); (case l14 => k_is); (case c14 => k_is); (case a15 => k_is); (case l15 => k_is); (case c15 => k_is); (case a16 => k_is); (case l16 => k_is); (case c16 => k_is); (case a17 => k_is); (case l17 => k_is); (case c17 => k_is); (case sm1 => k_is); (case sc1 => k_is); (case sc2 => k_is); (case z_abs => k_is); (case z_bool => k_is); (case z_int => k_is); (case z_isinstance => k_is); (case z_len => k_is); (case z_max => k_is); (case z_min => k_is); (case z_range => k_is); (case z_sorted => k_is)
