import PyProof.Rows.All
import Wide.All
import OpenK.AllK
import Wide.FinOn
import HandS.ForMost
import HandS.IsInst
import HandS.EndBits
import HandS.ForExc
import HandS.ForSpec
import HandS.TupAny
import HandS.SortInts
import HandS.Rev
import HandS.ExcIs
import HandS.ExcInit
import HandS.ExcField
import HandS.More
import HandS.Text
import HandS.NoneIn
import HandS.CallSlots
import HandS.TupLen
import HandS.Star
import HandS.ClsMeth
import HandS.Zip
import PySem.Challenge.RW_easelwork_k11_curves
set_option Elab.async false
set_option linter.all false
set_option maxRecDepth 100000
namespace DL
open PySem PySem.Spec L2

/-- data without addresses -/
inductive D where
  | non | bl (b : Bool) | int (i : Int) | str (x : Str) | tup (ds : List D) | lst (ds : List D) | rdl (ds : List D) | dct | dk (ks : List Key) (ds : List D) | dt (ks : List (List Key)) (ds : List D) | ob (c : Str) (ks : List Str) (ds : List D) | fn (x : Str) | rf (v : V)

mutual
inductive RepD (K : PySem.W.Frag) (F : Hp) : V → D → Prop
  | non : RepD K F .non .non
  | bl (b : Bool) : RepD K F (.bl b) (.bl b)
  | int (i : Int) : RepD K F (.int i) (.int i)
  | str (x : Str) : RepD K F (.str x) (.str x)
  | tup {a : Addr} {xs : List V} {ds : List D} : SqT K F a xs → RepL K F xs ds → RepD K F (.ref a) (.tup ds)
  | lst {a : Addr} {xs : List V} {ds : List D} : F a = some (.lst xs) → RepL K F xs ds → RepD K F (.ref a) (.lst ds)
  | rdl {a : Addr} {xs : List V} {ds : List D} : SqL K F a xs → RepL K F xs ds → RepD K F (.ref a) (.rdl ds)
  | dct {a : Addr} {kvs : List (Key × V)} : F a = some (.dK kvs) → RepD K F (.ref a) .dct
  | dk {a : Addr} {kvs : List (Key × V)} {ks : List Key} {ds : List D} : F a = some (.dK kvs) → kvs.map (·.1) = ks → RepL K F (kvs.map (·.2)) ds → RepD K F (.ref a) (.dk ks ds)
  | dt {a : Addr} {kvs : List (List Key × V)} {ks : List (List Key)} {ds : List D} : F a = some (.dT kvs) → kvs.map (·.1) = ks → RepL K F (kvs.map (·.2)) ds → RepD K F (.ref a) (.dt ks ds)
  | ob {a C dx : Addr} {c : Str} {fs : List (Str × V)} {ks : List Str} {ds : List D} : PySem.W.nsIn K mainGlobals c = some (some (.ref C)) → F a = some (.ins C dx fs) → fs.map (·.1) = ks → RepL K F (fs.map (·.2)) ds → RepD K F (.ref a) (.ob c ks ds)
  | fn {a : Addr} {x : Str} : PySem.W.nsIn K mainGlobals x = some (some (.ref a)) → RepD K F (.ref a) (.fn x)
  | rf (v : V) : RepD K F v (.rf v)
inductive RepL (K : PySem.W.Frag) (F : Hp) : List V → List D → Prop
  | nil : RepL K F [] []
  | cons {v : V} {d : D} {vs : List V} {ds : List D} : RepD K F v d → RepL K F vs ds → RepL K F (v :: vs) (d :: ds)
end

theorem seqT {K : PySem.W.Frag} {H H' : Hp} {a : Addr} {xs : List V} (e : Same H H') (h : SqT K H a xs) : SqT K H' a xs := by
  rcases h with (h | ⟨o, h⟩) | h
  · exact .inl (.inl (e _ _ h))
  · exact .inl (.inr ⟨o, e _ _ h⟩)
  · exact .inr h

mutual
theorem RepD.mono {K : PySem.W.Frag} {F F' : Hp} (s : Same F F') : ∀ {v : V} {d : D}, RepD K F v d → RepD K F' v d
  | _, _, .non => .non
  | _, _, .bl b => .bl b
  | _, _, .int i => .int i
  | _, _, .str x => .str x
  | _, _, .tup h r => .tup (seqT s h) (RepL.mono s r)
  | _, _, .lst h r => .lst (s _ _ h) (RepL.mono s r)
  | _, _, .rdl h r => .rdl (s.seq h) (RepL.mono s r)
  | _, _, .dct h => .dct (s _ _ h)
  | _, _, .dk h e r => .dk (s _ _ h) e (RepL.mono s r)
  | _, _, .dt h e r => .dt (s _ _ h) e (RepL.mono s r)
  | _, _, .ob n h e r => .ob n (s _ _ h) e (RepL.mono s r)
  | _, _, .fn h => .fn h
  | _, _, .rf v => .rf v
theorem RepL.mono {K : PySem.W.Frag} {F F' : Hp} (s : Same F F') : ∀ {vs : List V} {ds : List D}, RepL K F vs ds → RepL K F' vs ds
  | _, _, .nil => .nil
  | _, _, .cons h r => .cons (RepD.mono s h) (RepL.mono s r)
end
section
variable {K : PySem.W.Frag} {F : Hp}
theorem RepL.length : ∀ {vs : List V} {ds : List D}, RepL K F vs ds → vs.length = ds.length
  | _, _, .nil => rfl
  | _, _, .cons _ r => congrArg (· + 1) (RepL.length r)
theorem RepL.get : ∀ {vs : List V} {ds : List D} {i : Nat} {d : D}, RepL K F vs ds → ds[i]? = some d → ∃ v, vs[i]? = some v ∧ RepD K F v d
  | _, _, i, d, .nil, h => by simp at h
  | _, _, 0, d, .cons h _, e => by
    simp at e; subst e; exact ⟨_, rfl, h⟩
  | _, _, i + 1, d, .cons _ r, e => by
    obtain ⟨v, a, b⟩ := RepL.get (i := i) r (by simpa using e)
    exact ⟨v, by simpa using a, b⟩
theorem RepL.getV : ∀ {vs : List V} {ds : List D} {i : Nat} {v : V}, RepL K F vs ds → vs[i]? = some v → ∃ d, ds[i]? = some d ∧ RepD K F v d
  | _, _, i, v, .nil, h => by simp at h
  | _, _, 0, v, .cons h _, e => by
    simp at e; subst e; exact ⟨_, rfl, h⟩
  | _, _, i + 1, v, .cons _ r, e => by
    obtain ⟨d, a, b⟩ := RepL.getV (i := i) r (by simpa using e)
    exact ⟨d, by simpa using a, b⟩
theorem RepL.append : ∀ {vs : List V} {ds : List D} {ws : List V} {es : List D}, RepL K F vs ds → RepL K F ws es → RepL K F (vs ++ ws) (ds ++ es)
  | _, _, _, _, .nil, s => s
  | _, _, _, _, .cons h r, s => .cons h (RepL.append r s)
theorem RepL.take : ∀ {vs : List V} {ds : List D} (n : Nat), RepL K F vs ds → RepL K F (vs.take n) (ds.take n)
  | _, _, 0, _ => .nil
  | _, _, _ + 1, .nil => .nil
  | _, _, n + 1, .cons h r => .cons h (RepL.take n r)
theorem RepL.drop : ∀ {vs : List V} {ds : List D} (n : Nat), RepL K F vs ds → RepL K F (vs.drop n) (ds.drop n)
  | _, _, 0, r => r
  | _, _, _ + 1, .nil => .nil
  | _, _, n + 1, .cons _ r => RepL.drop n r
theorem RepL.set {v : V} {d : D} (h : RepD K F v d) : ∀ {vs : List V} {ds : List D} (i : Nat), RepL K F vs ds → RepL K F (vs.set i v) (ds.set i d)
  | _, _, _, .nil => .nil
  | _, _, 0, .cons _ r => .cons h r
  | _, _, i + 1, .cons q r => .cons q (RepL.set h i r)
theorem RepL.dropLast : ∀ {vs : List V} {ds : List D}, RepL K F vs ds → RepL K F vs.dropLast ds.dropLast
  | _, _, .nil => .nil
  | _, _, .cons _ .nil => .nil
  | _, _, .cons h (.cons h2 r) => .cons h (RepL.dropLast (.cons h2 r))
theorem RepL.reverse : ∀ {vs : List V} {ds : List D}, RepL K F vs ds → RepL K F vs.reverse ds.reverse
  | _, _, .nil => .nil
  | _, _, .cons h r => by
    rw [List.reverse_cons, List.reverse_cons]
    exact RepL.append (RepL.reverse r) (.cons h .nil)
theorem RepL.ints : ∀ {vs : List V} {ns : List Int}, RepL K F vs (ns.map D.int) → vs = ns.map V.int := by
  intro vs ns
  induction ns generalizing vs with
  | nil => intro h; cases h; rfl
  | cons n r ih =>
    intro h
    cases h with
    | cons a b => cases a; rw [ih b]; rfl
theorem RepL.of_ints : ∀ (ns : List Int), RepL K F (ns.map V.int) (ns.map D.int)
  | [] => .nil
  | n :: r => .cons (.int n) (RepL.of_ints r)
end

/-! ### steps of the two heaps: F what is frozen, H all that is tracked -/
structure Ste (F H F' H' : Hp) : Prop where
  ff : Same F F'
  fh : Same F' H'
  old : ∀ b, H b ≠ none → F' b = F b
  hh : Same H H'
theorem Ste.refl {F H : Hp} (s : Same F H) : Ste F H F H := ⟨Same.refl F, s, fun _ _ => rfl, Same.refl H⟩
theorem Same.some {H H' : Hp} (s : Same H H') {b : Addr} (h : H b ≠ none) : H' b ≠ none := by
  cases q : H b with
  | none => exact absurd q h
  | some o => rw [s b o q]; exact fun z => by cases z
theorem Ste.trans {F H F1 H1 F2 H2 : Hp} (a : Ste F H F1 H1) (b : Ste F1 H1 F2 H2) : Ste F H F2 H2 :=
  ⟨a.ff.trans b.ff, b.fh, fun c h => (b.old c (Same.some a.hh h)).trans (a.old c h), a.hh.trans b.hh⟩
theorem same_upd {H : Hp} {p : Addr} {o : HO} (h : H p = none) : Same H (upd H p o) := fun b x e => by
  rw [upd_ne (ne_of_none e h)]; exact e
theorem same_upd2 {F H : Hp} {p : Addr} {o : HO} (s : Same F H) : Same (upd F p o) (upd H p o) := fun b x e => by
  by_cases hb : b = p
  · subst hb; rw [upd_same] at e ⊢; exact e
  · rw [upd_ne hb] at e ⊢; exact s b x e
theorem Same.noneF {F H : Hp} (s : Same F H) {p : Addr} (h : H p = none) : F p = none := s.free h
theorem Ste.laid {F H : Hp} {p : Addr} {o : HO} (s : Same F H) (h : H p = none) : Ste F H (upd F p o) (upd H p o) :=
  ⟨same_upd (s.free h), same_upd2 s, fun b hb => upd_ne (fun z => hb (z ▸ h)), same_upd h⟩
theorem Ste.loose {F H : Hp} {p : Addr} {o : HO} (s : Same F H) (h : H p = none) : Ste F H F (upd H p o) :=
  ⟨Same.refl F, s.trans (same_upd h), fun _ _ => rfl, same_upd h⟩

/-! ### dicts -/
def RepQ (K : PySem.W.Frag) (F : Hp) {κ : Type} : List (κ × V) → List (κ × D) → Prop
  | [], [] => True
  | (x, v) :: r, (y, d) :: s => x = y ∧ RepD K F v d ∧ RepQ K F r s
  | _, _ => False
theorem RepQ.mono {K : PySem.W.Frag} {F F' : Hp} (s : Same F F') {κ : Type} : ∀ {kvs : List (κ × V)} {qs : List (κ × D)}, RepQ K F kvs qs → RepQ K F' kvs qs
  | [], [], _ => trivial
  | (x, v) :: r, (y, d) :: t, h => ⟨h.1, h.2.1.mono s, RepQ.mono s h.2.2⟩
  | [], _ :: _, h => h.elim
  | _ :: _, [], h => h.elim
theorem RepQ.parts {K : PySem.W.Frag} {F : Hp} {κ : Type} : ∀ {kvs : List (κ × V)} {qs : List (κ × D)}, RepQ K F kvs qs → kvs.map (·.1) = qs.map (·.1) ∧ RepL K F (kvs.map (·.2)) (qs.map (·.2))
  | [], [], _ => ⟨rfl, .nil⟩
  | (x, v) :: r, (y, d) :: t, h => by
    obtain ⟨h1, h2, h3⟩ := h
    obtain ⟨a, b⟩ := RepQ.parts h3
    exact ⟨by simp [h1, a], .cons h2 b⟩
  | [], _ :: _, h => h.elim
  | _ :: _, [], h => h.elim
theorem RepQ.of {K : PySem.W.Frag} {F : Hp} {κ : Type} : ∀ {kvs : List (κ × V)} {qs : List (κ × D)}, kvs.map (·.1) = qs.map (·.1) → RepL K F (kvs.map (·.2)) (qs.map (·.2)) → RepQ K F kvs qs
  | [], [], _, _ => trivial
  | (x, v) :: r, (y, d) :: t, h1, h2 => by
    simp only [List.map_cons, List.cons.injEq] at h1
    cases h2 with
    | cons a b => exact ⟨h1.1, a, RepQ.of h1.2 b⟩
  | [], _ :: _, h, _ => by cases h
  | _ :: _, [], h, _ => by cases h
/-- what a name of one's own may hold besides lists -/
inductive OB where
  | dk (qs : List (Key × D)) | dt (qs : List (List Key × D)) | ins (c : Str) (qs : List (Str × D))
def RepO (K : PySem.W.Frag) (F : Hp) : HO → OB → Prop
  | .dK kvs, .dk qs => RepQ K F kvs qs
  | .dT kvs, .dt qs => RepQ K F kvs qs
  | .ins C _ fs, .ins c qs => PySem.W.nsIn K mainGlobals c = some (some (.ref C)) ∧ RepQ K F fs qs
  | _, _ => False
theorem RepO.mono {K : PySem.W.Frag} {F F' : Hp} (s : Same F F') {o : HO} {b : OB} (h : RepO K F o b) : RepO K F' o b := by
  cases o <;> cases b <;> first | exact RepQ.mono s h | exact ⟨h.1, RepQ.mono s h.2⟩ | exact h.elim
def OB.frz : OB → D
  | .dk qs => .dk (qs.map (·.1)) (qs.map (·.2))
  | .dt qs => .dt (qs.map (·.1)) (qs.map (·.2))
  | .ins c qs => .ob c (qs.map (·.1)) (qs.map (·.2))
theorem RepO.rep {K : PySem.W.Frag} {F F' : Hp} {o : HO} {b : OB} {a : Addr} (h : RepO K F o b) (s : Same F F') (e : F' a = some o) : RepD K F' (.ref a) b.frz := by
  cases o <;> cases b <;> first | exact h.elim | skip
  · exact .dk e (RepQ.parts h).1 ((RepQ.parts h).2.mono s)
  · exact .dt e (RepQ.parts h).1 ((RepQ.parts h).2.mono s)
  · exact .ob h.1 e (RepQ.parts h.2).1 ((RepQ.parts h.2).2.mono s)
/-! ### the frame's entries -/
inductive Ent where
  | un | dat (d : D) | own (ds : List D) | io (ds : List D) | xc | od (b : OB) | ib (b : OB)
def Ent.mut : Ent → Bool
  | .own _ => true | .io _ => true | .od _ => true | .ib _ => true | _ => false
structure Ct where
  F0 : Hp
  H0 : Hp
  A : Option Addr
  xa : Option Addr
def EntOk (K : PySem.W.Frag) (C : Ct) (F H : Hp) (s : Option (Option V)) : Ent → Prop
  | .un => True
  | .xc => ∃ a, C.xa = some a ∧ s = some (some (.ref a))
  | .dat d => ∃ v, s = some (some v) ∧ RepD K F v d
  | .own ds => ∃ l vs, s = some (some (.ref l)) ∧ H l = some (.lst vs) ∧ F l = none ∧ RepL K F vs ds ∧ C.H0 l = none
  | .io ds => ∃ l vs, s = some (some (.ref l)) ∧ H l = some (.lst vs) ∧ F l = none ∧ RepL K F vs ds ∧ C.A = some l
  | .od b => ∃ l o, s = some (some (.ref l)) ∧ H l = some o ∧ F l = none ∧ RepO K F o b ∧ C.H0 l = none
  | .ib b => ∃ l o, s = some (some (.ref l)) ∧ H l = some o ∧ F l = none ∧ RepO K F o b ∧ C.A = some l
structure Rep (K : PySem.W.Frag) (C : Ct) (F H : Hp) (σ : St) (ε : List Ent) : Prop where
  fh : Same F H
  ff : Same C.F0 F
  old : ∀ b, C.H0 b ≠ none → F b = C.F0 b
  keep : ∀ b o, C.H0 b = some o → C.A ≠ some b → H b = some o
  tr : ∀ b, C.H0 b ≠ none → H b ≠ none
  len : σ.length = ε.length
  ent : ∀ (i : Nat) (e : Ent), ε[i]? = some e → EntOk K C F H σ[i]? e
  dis : ∀ (i j : Nat) (l : Addr) (e e' : Ent), σ[i]? = some (some (.ref l)) → σ[j]? = some (some (.ref l)) → ε[i]? = some e → ε[j]? = some e' → e.mut = true → e'.mut = true → i = j

section
variable {K : PySem.W.Frag} {C : Ct} {F H F' H' : Hp} {σ : St} {ε : List Ent}
/-- what changes nothing that is known -/
theorem Rep.step (R : Rep K C F H σ ε) (s : Ste F H F' H') : Rep K C F' H' σ ε where
  fh := s.fh
  ff := R.ff.trans s.ff
  old := fun b h => (s.old b (R.tr b h)).trans (R.old b h)
  keep := fun b o h n => s.hh b o (R.keep b o h n)
  tr := fun b h => Same.some s.hh (R.tr b h)
  len := R.len
  ent := fun i e he => by
    have q := R.ent i e he
    cases e with
    | un => trivial
    | xc => exact q
    | dat d => obtain ⟨v, a, b⟩ := q; exact ⟨v, a, b.mono s.ff⟩
    | own ds =>
      obtain ⟨l, vs, a, b, c, d, e⟩ := q
      exact ⟨l, vs, a, s.hh _ _ b, (s.old l (by rw [b]; exact fun z => by cases z)).trans c, d.mono s.ff, e⟩
    | io ds =>
      obtain ⟨l, vs, a, b, c, d, e⟩ := q
      exact ⟨l, vs, a, s.hh _ _ b, (s.old l (by rw [b]; exact fun z => by cases z)).trans c, d.mono s.ff, e⟩
    | od ob =>
      obtain ⟨l, o, a, b, c, d, e⟩ := q
      exact ⟨l, o, a, s.hh _ _ b, (s.old l (by rw [b]; exact fun z => by cases z)).trans c, d.mono s.ff, e⟩
    | ib ob =>
      obtain ⟨l, o, a, b, c, d, e⟩ := q
      exact ⟨l, o, a, s.hh _ _ b, (s.old l (by rw [b]; exact fun z => by cases z)).trans c, d.mono s.ff, e⟩
  dis := R.dis
/-- a name is given data -/
theorem Rep.set (R : Rep K C F H σ ε) (i : Nat) {v : V} {d : D} (h : RepD K F v d) : Rep K C F H (σ.set i (some v)) (ε.set i (.dat d)) where
  fh := R.fh
  ff := R.ff
  old := R.old
  keep := R.keep
  tr := R.tr
  len := by rw [List.length_set, List.length_set]; exact R.len
  ent := fun j e he => by
    by_cases hj : i = j
    · subst hj
      have hl : i < ε.length := by
        have := (List.getElem?_eq_some_iff.mp he).1
        rwa [List.length_set] at this
      rw [List.getElem?_set_self hl] at he
      cases he
      exact ⟨v, by rw [List.getElem?_set_self (by rw [R.len]; exact hl)], h⟩
    · rw [List.getElem?_set_ne hj] at he
      rw [List.getElem?_set_ne hj]
      exact R.ent j e he
  dis := fun a b l e e' h1 h2 h3 h4 h5 h6 => by
    by_cases ha : i = a
    · subst ha
      have hl : i < ε.length := by
        have := (List.getElem?_eq_some_iff.mp h3).1
        rwa [List.length_set] at this
      rw [List.getElem?_set_self hl] at h3
      cases h3
      cases h5
    · by_cases hb : i = b
      · subst hb
        have hl : i < ε.length := by
          have := (List.getElem?_eq_some_iff.mp h4).1
          rwa [List.length_set] at this
        rw [List.getElem?_set_self hl] at h4
        cases h4
        cases h6
      · rw [List.getElem?_set_ne ha] at h1 h3
        rw [List.getElem?_set_ne hb] at h2 h4
        exact R.dis a b l e e' h1 h2 h3 h4 h5 h6
/-- an address that no mutable name holds -/
def Apart (σ : St) (ε : List Ent) (l : Addr) : Prop := ∀ (j : Nat) (e : Ent), σ[j]? = some (some (.ref l)) → ε[j]? = some e → e.mut = false
/-- a name is given a new list of its own -/
theorem Rep.setO (R : Rep K C F H σ ε) (i : Nat) {l : Addr} {vs : List V} {ds : List D} (h1 : H l = some (.lst vs)) (h2 : F l = none) (h3 : RepL K F vs ds) (h4 : C.H0 l = none) (h5 : Apart σ ε l) :
    Rep K C F H (σ.set i (some (.ref l))) (ε.set i (.own ds)) where
  fh := R.fh
  ff := R.ff
  old := R.old
  keep := R.keep
  tr := R.tr
  len := by rw [List.length_set, List.length_set]; exact R.len
  ent := fun j e he => by
    by_cases hj : i = j
    · subst hj
      have hl : i < ε.length := by
        have := (List.getElem?_eq_some_iff.mp he).1
        rwa [List.length_set] at this
      rw [List.getElem?_set_self hl] at he
      cases he
      exact ⟨l, vs, by rw [List.getElem?_set_self (by rw [R.len]; exact hl)], h1, h2, h3, h4⟩
    · rw [List.getElem?_set_ne hj] at he
      rw [List.getElem?_set_ne hj]
      exact R.ent j e he
  dis := fun a b m e e' g1 g2 g3 g4 g5 g6 => by
    by_cases ha : i = a
    · by_cases hb : i = b
      · exact ha.symm.trans hb
      · exfalso
        subst ha
        have hl : i < ε.length := by
          have := (List.getElem?_eq_some_iff.mp g3).1
          rwa [List.length_set] at this
        rw [List.getElem?_set_self (by rw [R.len]; exact hl)] at g1
        rw [List.getElem?_set_ne hb] at g2 g4
        cases g1
        rw [h5 b e' g2 g4] at g6
        cases g6
    · by_cases hb : i = b
      · exfalso
        subst hb
        have hl : i < ε.length := by
          have := (List.getElem?_eq_some_iff.mp g4).1
          rwa [List.length_set] at this
        rw [List.getElem?_set_self (by rw [R.len]; exact hl)] at g2
        rw [List.getElem?_set_ne ha] at g1 g3
        cases g2
        rw [h5 a e g1 g3] at g5
        cases g5
      · rw [List.getElem?_set_ne ha] at g1 g3
        rw [List.getElem?_set_ne hb] at g2 g4
        exact R.dis a b m e e' g1 g2 g3 g4 g5 g6
/-- a name is given a new object of its own -/
theorem Rep.setB (R : Rep K C F H σ ε) (i : Nat) {l : Addr} {o : HO} {b : OB} (h1 : H l = some o) (h2 : F l = none) (h3 : RepO K F o b) (h4 : C.H0 l = none) (h5 : Apart σ ε l) :
    Rep K C F H (σ.set i (some (.ref l))) (ε.set i (.od b)) where
  fh := R.fh
  ff := R.ff
  old := R.old
  keep := R.keep
  tr := R.tr
  len := by rw [List.length_set, List.length_set]; exact R.len
  ent := fun j e he => by
    by_cases hj : i = j
    · subst hj
      have hl : i < ε.length := by
        have := (List.getElem?_eq_some_iff.mp he).1
        rwa [List.length_set] at this
      rw [List.getElem?_set_self hl] at he
      cases he
      exact ⟨l, o, by rw [List.getElem?_set_self (by rw [R.len]; exact hl)], h1, h2, h3, h4⟩
    · rw [List.getElem?_set_ne hj] at he
      rw [List.getElem?_set_ne hj]
      exact R.ent j e he
  dis := fun a c m e e' g1 g2 g3 g4 g5 g6 => by
    by_cases ha : i = a
    · by_cases hb : i = c
      · exact ha.symm.trans hb
      · exfalso
        subst ha
        have hl : i < ε.length := by
          have := (List.getElem?_eq_some_iff.mp g3).1
          rwa [List.length_set] at this
        rw [List.getElem?_set_self (by rw [R.len]; exact hl)] at g1
        rw [List.getElem?_set_ne hb] at g2 g4
        cases g1
        rw [h5 c e' g2 g4] at g6
        cases g6
    · by_cases hb : i = c
      · exfalso
        subst hb
        have hl : i < ε.length := by
          have := (List.getElem?_eq_some_iff.mp g4).1
          rwa [List.length_set] at this
        rw [List.getElem?_set_self (by rw [R.len]; exact hl)] at g2
        rw [List.getElem?_set_ne ha] at g1 g3
        cases g2
        rw [h5 a e g1 g3] at g5
        cases g5
      · rw [List.getElem?_set_ne ha] at g1 g3
        rw [List.getElem?_set_ne hb] at g2 g4
        exact R.dis a c m e e' g1 g2 g3 g4 g5 g6
/-- the frozen heap takes in an address that no mutable name holds -/
theorem Rep.freeze (R : Rep K C F H σ ε) {l : Addr} {o : HO} (h1 : H l = some o) (h2 : F l = none) (h4 : C.H0 l = none) (h5 : Apart σ ε l) : Rep K C (upd F l o) H σ ε where
  fh := fun b x e => by
    by_cases hb : b = l
    · subst hb; rw [upd_same] at e; cases e; exact h1
    · rw [upd_ne hb] at e; exact R.fh b x e
  ff := R.ff.trans (same_upd h2)
  old := fun b h => by
    rw [upd_ne (show b ≠ l from fun z => h (by rw [z]; exact h4))]
    exact R.old b h
  keep := R.keep
  tr := R.tr
  len := R.len
  ent := fun i e he => by
    have q := R.ent i e he
    have s : Same F (upd F l o) := same_upd h2
    cases e with
    | un => trivial
    | xc => exact q
    | dat d => obtain ⟨v, a, b⟩ := q; exact ⟨v, a, b.mono s⟩
    | own ds =>
      obtain ⟨m, vs, a, b, c, d, e⟩ := q
      have ne : m ≠ l := fun z => by
        have := h5 i _ (z ▸ a) he
        cases this
      exact ⟨m, vs, a, b, by rw [upd_ne ne]; exact c, d.mono s, e⟩
    | io ds =>
      obtain ⟨m, vs, a, b, c, d, e⟩ := q
      have ne : m ≠ l := fun z => by
        have := h5 i _ (z ▸ a) he
        cases this
      exact ⟨m, vs, a, b, by rw [upd_ne ne]; exact c, d.mono s, e⟩
    | od ob =>
      obtain ⟨m, o2, a, b, c, d, e⟩ := q
      have ne : m ≠ l := fun z => by
        have := h5 i _ (z ▸ a) he
        cases this
      exact ⟨m, o2, a, b, by rw [upd_ne ne]; exact c, d.mono s, e⟩
    | ib ob =>
      obtain ⟨m, o2, a, b, c, d, e⟩ := q
      have ne : m ≠ l := fun z => by
        have := h5 i _ (z ▸ a) he
        cases this
      exact ⟨m, o2, a, b, by rw [upd_ne ne]; exact c, d.mono s, e⟩
  dis := R.dis
/-- a name's entry is forgotten, or weakened -/
theorem Rep.weak (R : Rep K C F H σ ε) (i : Nat) : Rep K C F H σ (ε.set i .un) where
  fh := R.fh
  ff := R.ff
  old := R.old
  keep := R.keep
  tr := R.tr
  len := by rw [List.length_set]; exact R.len
  ent := fun j e he => by
    by_cases hj : i = j
    · subst hj
      have hl : i < ε.length := by
        have := (List.getElem?_eq_some_iff.mp he).1
        rwa [List.length_set] at this
      rw [List.getElem?_set_self hl] at he
      cases he
      trivial
    · rw [List.getElem?_set_ne hj] at he
      exact R.ent j e he
  dis := fun a b l e e' h1 h2 h3 h4 h5 h6 => by
    by_cases ha : i = a
    · subst ha
      have hl : i < ε.length := by
        have := (List.getElem?_eq_some_iff.mp h3).1
        rwa [List.length_set] at this
      rw [List.getElem?_set_self hl] at h3
      cases h3
      cases h5
    · by_cases hb : i = b
      · subst hb
        have hl : i < ε.length := by
          have := (List.getElem?_eq_some_iff.mp h4).1
          rwa [List.length_set] at this
        rw [List.getElem?_set_self hl] at h4
        cases h4
        cases h6
      · rw [List.getElem?_set_ne ha] at h3
        rw [List.getElem?_set_ne hb] at h4
        exact R.dis a b l e e' h1 h2 h3 h4 h5 h6
/-- a list of one's own is frozen where it stands -/
theorem Rep.freezeAt (R : Rep K C F H σ ε) {i : Nat} {ds : List D} (he : ε[i]? = some (.own ds)) :
    ∃ l vs, σ[i]? = some (some (.ref l)) ∧ F l = none ∧ RepL K F vs ds ∧ Rep K C (upd F l (.lst vs)) H σ (ε.set i (.dat (.lst ds))) := by
  obtain ⟨l, vs, a, b, c, d, e⟩ := R.ent i _ he
  have hl : i < ε.length := (List.getElem?_eq_some_iff.mp he).1
  have ap : Apart σ (ε.set i .un) l := fun j e' hj hj' => by
    by_cases hi : i = j
    · subst hi
      rw [List.getElem?_set_self hl] at hj'
      cases hj'
      rfl
    · rw [List.getElem?_set_ne hi] at hj'
      cases hm : e'.mut with
      | false => rfl
      | true => exact absurd (R.dis i j l _ e' a hj he hj' rfl hm) hi
  refine ⟨l, vs, a, c, d, ?_⟩
  have R1 := (R.weak i).freeze b c e ap
  have R2 := R1.set i (v := .ref l) (d := .lst ds) (.lst upd_same (d.mono (same_upd c)))
  have e1 : (ε.set i .un).set i (.dat (.lst ds)) = ε.set i (.dat (.lst ds)) := by rw [List.set_set]
  have e2 : σ.set i (some (.ref l)) = σ := by
    apply List.ext_getElem?
    intro j
    by_cases hj : i = j
    · subst hj
      rw [List.getElem?_set_self (by rw [R.len]; exact hl), a]
    · rw [List.getElem?_set_ne hj]
  rw [e1, e2] at R2
  exact R2
/-- an object of one's own is frozen where it stands -/
theorem Rep.freezeB (R : Rep K C F H σ ε) {i : Nat} {ob : OB} (he : ε[i]? = some (.od ob)) :
    ∃ l o, σ[i]? = some (some (.ref l)) ∧ F l = none ∧ RepO K F o ob ∧ Rep K C (upd F l o) H σ (ε.set i (.dat ob.frz)) := by
  obtain ⟨l, o, a, b, c, d, e⟩ := R.ent i _ he
  have hl : i < ε.length := (List.getElem?_eq_some_iff.mp he).1
  have ap : Apart σ (ε.set i .un) l := fun j e' hj hj' => by
    by_cases hi : i = j
    · subst hi
      rw [List.getElem?_set_self hl] at hj'
      cases hj'
      rfl
    · rw [List.getElem?_set_ne hi] at hj'
      cases hm : e'.mut with
      | false => rfl
      | true => exact absurd (R.dis i j l _ e' a hj he hj' rfl hm) hi
  refine ⟨l, o, a, c, d, ?_⟩
  have R1 := (R.weak i).freeze b c e ap
  have R2 := R1.set i (v := .ref l) (d := ob.frz) (d.rep (same_upd c) upd_same)
  have e1 : (ε.set i .un).set i (.dat ob.frz) = ε.set i (.dat ob.frz) := by rw [List.set_set]
  have e2 : σ.set i (some (.ref l)) = σ := by
    apply List.ext_getElem?
    intro j
    by_cases hj : i = j
    · subst hj
      rw [List.getElem?_set_self (by rw [R.len]; exact hl), a]
    · rw [List.getElem?_set_ne hj]
  rw [e1, e2] at R2
  exact R2
/-- a mutable list changes -/
theorem Rep.change (R : Rep K C F H σ ε) {i : Nat} {e : Ent} {l : Addr} {vs : List V} {ds : List D} (he : ε[i]? = some e) (hm : e.mut = true) (a : σ[i]? = some (some (.ref l))) (hr : RepL K F vs ds)
    {e' : Ent} (hk : (∃ z, e = .own z ∧ e' = .own ds) ∨ ∃ z, e = .io z ∧ e' = .io ds) : Rep K C F (upd H l (.lst vs)) σ (ε.set i e') := by
  have hl : i < ε.length := (List.getElem?_eq_some_iff.mp he).1
  have fl : F l = none := by
    have q := R.ent i e he
    rcases hk with ⟨z, rfl, _⟩ | ⟨z, rfl, _⟩
    · obtain ⟨m, _, a', _, c, _⟩ := q
      rw [a] at a'; cases a'; exact c
    · obtain ⟨m, _, a', _, c, _⟩ := q
      rw [a] at a'; cases a'; exact c
  refine ⟨fun b x q => ?_, R.ff, R.old, fun b o q n => ?_, fun b q => ?_, by rw [List.length_set]; exact R.len, fun j e2 h2 => ?_, fun p q m x y h1 h2 h3 h4 h5 h6 => ?_⟩
  · rw [upd_ne (fun z => by rw [z, fl] at q; cases q)]
    exact R.fh b x q
  · have ne : b ≠ l := by
      rintro rfl
      have q2 := R.ent i e he
      rcases hk with ⟨z, rfl, _⟩ | ⟨z, rfl, _⟩
      · obtain ⟨m, _, a', _, c, _, g⟩ := q2
        rw [a] at a'; cases a'; rw [q] at g; cases g
      · obtain ⟨m, _, a', _, c, _, g⟩ := q2
        rw [a] at a'; cases a'; exact n g
    rw [upd_ne ne]
    exact R.keep b o q n
  · by_cases hb : b = l
    · subst hb; rw [upd_same]; exact fun z => by cases z
    · rw [upd_ne hb]; exact R.tr b q
  · by_cases hj : i = j
    · subst hj
      rw [List.getElem?_set_self hl] at h2
      cases h2
      have q2 := R.ent i e he
      rcases hk with ⟨z, rfl, rfl⟩ | ⟨z, rfl, rfl⟩
      · obtain ⟨m, _, a', _, c, _, g⟩ := q2
        rw [a] at a'; cases a'
        exact ⟨l, vs, a, upd_same, c, hr, g⟩
      · obtain ⟨m, _, a', _, c, _, g⟩ := q2
        rw [a] at a'; cases a'
        exact ⟨l, vs, a, upd_same, c, hr, g⟩
    · rw [List.getElem?_set_ne hj] at h2
      have q2 := R.ent j e2 h2
      cases e2 with
      | un => trivial
      | xc => exact q2
      | dat d => exact q2
      | own zs =>
        obtain ⟨m, ws, a', b', c', d', g'⟩ := q2
        have ne : m ≠ l := fun z => hj (R.dis i j l e _ a (z ▸ a') he h2 hm rfl)
        exact ⟨m, ws, a', by rw [upd_ne ne]; exact b', c', d', g'⟩
      | io zs =>
        obtain ⟨m, ws, a', b', c', d', g'⟩ := q2
        have ne : m ≠ l := fun z => hj (R.dis i j l e _ a (z ▸ a') he h2 hm rfl)
        exact ⟨m, ws, a', by rw [upd_ne ne]; exact b', c', d', g'⟩
      | od ob =>
        obtain ⟨m, ws, a', b', c', d', g'⟩ := q2
        have ne : m ≠ l := fun z => hj (R.dis i j l e _ a (z ▸ a') he h2 hm rfl)
        exact ⟨m, ws, a', by rw [upd_ne ne]; exact b', c', d', g'⟩
      | ib ob =>
        obtain ⟨m, ws, a', b', c', d', g'⟩ := q2
        have ne : m ≠ l := fun z => hj (R.dis i j l e _ a (z ▸ a') he h2 hm rfl)
        exact ⟨m, ws, a', by rw [upd_ne ne]; exact b', c', d', g'⟩
  · have key : ∀ (j : Nat) (x : Ent), (ε.set i e')[j]? = some x → x.mut = true → ∃ y, ε[j]? = some y ∧ y.mut = true := fun j x hx hx' => by
      by_cases hj : i = j
      · subst hj; exact ⟨e, he, hm⟩
      · rw [List.getElem?_set_ne hj] at hx; exact ⟨x, hx, hx'⟩
    obtain ⟨x1, k1, k2⟩ := key p x h3 h5
    obtain ⟨x2, k3, k4⟩ := key q y h4 h6
    exact R.dis p q m x1 x2 h1 h2 k1 k3 k2 k4
/-- an object of one's own changes -/
theorem Rep.changeB (R : Rep K C F H σ ε) {i : Nat} {e : Ent} {l : Addr} {o : HO} {b0 b1 : OB} (he : ε[i]? = some e) (hm : e.mut = true) (a : σ[i]? = some (some (.ref l))) (hr : RepO K F o b1)
    {e' : Ent} (hk : (e = .od b0 ∧ e' = .od b1) ∨ (e = .ib b0 ∧ e' = .ib b1)) : Rep K C F (upd H l o) σ (ε.set i e') := by
  have hl : i < ε.length := (List.getElem?_eq_some_iff.mp he).1
  have fl : F l = none := by
    have q := R.ent i e he
    rcases hk with ⟨rfl, _⟩ | ⟨rfl, _⟩
    · obtain ⟨m, _, a', _, c, _⟩ := q
      rw [a] at a'; cases a'; exact c
    · obtain ⟨m, _, a', _, c, _⟩ := q
      rw [a] at a'; cases a'; exact c
  refine ⟨fun b x q => ?_, R.ff, R.old, fun b o2 q n => ?_, fun b q => ?_, by rw [List.length_set]; exact R.len, fun j e2 h2 => ?_, fun p q m x y h1 h2 h3 h4 h5 h6 => ?_⟩
  · rw [upd_ne (fun z => by rw [z, fl] at q; cases q)]
    exact R.fh b x q
  · have ne : b ≠ l := by
      rintro rfl
      have q2 := R.ent i e he
      rcases hk with ⟨rfl, _⟩ | ⟨rfl, _⟩
      · obtain ⟨m, _, a', _, c, _, g⟩ := q2
        rw [a] at a'; cases a'; rw [q] at g; cases g
      · obtain ⟨m, _, a', _, c, _, g⟩ := q2
        rw [a] at a'; cases a'; exact n g
    rw [upd_ne ne]
    exact R.keep b o2 q n
  · by_cases hb : b = l
    · subst hb; rw [upd_same]; exact fun z => by cases z
    · rw [upd_ne hb]; exact R.tr b q
  · by_cases hj : i = j
    · subst hj
      rw [List.getElem?_set_self hl] at h2
      cases h2
      have q2 := R.ent i e he
      rcases hk with ⟨rfl, rfl⟩ | ⟨rfl, rfl⟩
      · obtain ⟨m, _, a', _, c, _, g⟩ := q2
        rw [a] at a'; cases a'
        exact ⟨l, o, a, upd_same, c, hr, g⟩
      · obtain ⟨m, _, a', _, c, _, g⟩ := q2
        rw [a] at a'; cases a'
        exact ⟨l, o, a, upd_same, c, hr, g⟩
    · rw [List.getElem?_set_ne hj] at h2
      have q2 := R.ent j e2 h2
      cases e2 with
      | un => trivial
      | xc => exact q2
      | dat d => exact q2
      | own zs =>
        obtain ⟨m, ws, a', b', c', d', g'⟩ := q2
        have ne : m ≠ l := fun z => hj (R.dis i j l e _ a (z ▸ a') he h2 hm rfl)
        exact ⟨m, ws, a', by rw [upd_ne ne]; exact b', c', d', g'⟩
      | io zs =>
        obtain ⟨m, ws, a', b', c', d', g'⟩ := q2
        have ne : m ≠ l := fun z => hj (R.dis i j l e _ a (z ▸ a') he h2 hm rfl)
        exact ⟨m, ws, a', by rw [upd_ne ne]; exact b', c', d', g'⟩
      | od ob =>
        obtain ⟨m, ws, a', b', c', d', g'⟩ := q2
        have ne : m ≠ l := fun z => hj (R.dis i j l e _ a (z ▸ a') he h2 hm rfl)
        exact ⟨m, ws, a', by rw [upd_ne ne]; exact b', c', d', g'⟩
      | ib ob =>
        obtain ⟨m, ws, a', b', c', d', g'⟩ := q2
        have ne : m ≠ l := fun z => hj (R.dis i j l e _ a (z ▸ a') he h2 hm rfl)
        exact ⟨m, ws, a', by rw [upd_ne ne]; exact b', c', d', g'⟩
  · have key : ∀ (j : Nat) (x : Ent), (ε.set i e')[j]? = some x → x.mut = true → ∃ y, ε[j]? = some y ∧ y.mut = true := fun j x hx hx' => by
      by_cases hj : i = j
      · subst hj; exact ⟨e, he, hm⟩
      · rw [List.getElem?_set_ne hj] at hx; exact ⟨x, hx, hx'⟩
    obtain ⟨x1, k1, k2⟩ := key p x h3 h5
    obtain ⟨x2, k3, k4⟩ := key q y h4 h6
    exact R.dis p q m x1 x2 h1 h2 k1 k3 k2 k4
end
end DL

set_option Elab.async false
set_option linter.all false
set_option maxRecDepth 100000
namespace DL
open PySem PySem.Spec L2

/-! ### results -/
structure Xn where
  cls : String
  fs : List (Str × D)
inductive Res (α : Type) where
  | ok (a : α) (ε : List Ent)
  | ex (x : Xn) (ε : List Ent)
abbrev Mo (α : Type) := List Ent → Option (Res α)
def bnd {α β : Type} (f : Mo α) (g : α → Mo β) : Mo β := fun ε => match f ε with
  | some (.ok a ε') => g a ε'
  | some (.ex x ε') => some (.ex x ε')
  | none => none
def pur {α : Type} (a : α) : Mo α := fun ε => some (.ok a ε)
def lft {α : Type} (o : Option α) : Mo α := fun ε => match o with
  | some a => some (.ok a ε)
  | none => none
def Good {α : Type} (r : Option (Res α)) (p : α → List Ent → Prop) (q : Xn → List Ent → Prop) : Prop := match r with
  | some (.ok a ε) => p a ε
  | some (.ex x ε) => q x ε
  | none => False
theorem Good.imp {α : Type} {r : Option (Res α)} {p p' : α → List Ent → Prop} {q q' : Xn → List Ent → Prop} (h : Good r p q) (hp : ∀ a e, p a e → p' a e) (hq : ∀ x e, q x e → q' x e) : Good r p' q' := by
  cases r with
  | none => exact h
  | some r => cases r with
    | ok a e => exact hp a e h
    | ex x e => exact hq x e h
theorem Good.bind {α β : Type} {f : Mo α} {g : α → Mo β} {ε : List Ent} {p : β → List Ent → Prop} {q : Xn → List Ent → Prop} (h : Good (bnd f g ε) p q) : Good (f ε) (fun a ε' => Good (g a ε') p q) q := by
  unfold bnd at h
  cases e : f ε with
  | none => rw [e] at h; exact h
  | some r =>
    rw [e] at h
    cases r with
    | ok a e => exact h
    | ex x e => exact h

/-- the fields of an exception -/
def RepF (K : PySem.W.Frag) (F : Hp) : List (Str × V) → List (Str × D) → Prop
  | [], [] => True
  | (x, v) :: r, (y, d) :: s => x = y ∧ RepD K F v d ∧ RepF K F r s
  | _, _ => False
structure RepX (K : PySem.W.Frag) (F H : Hp) (x : Xn) (c : Value) (od : Option Addr) : Prop where
  cls : ∃ a, c = .ref a ∧ PySem.W.nsIn K mainGlobals (Str.ofString x.cls) = some (some (.ref a))
  fs : (od = none ∧ x.fs = []) ∨ ∃ d vs, od = some d ∧ H d = some (.xd vs) ∧ RepF K F vs x.fs

/-- what an expression does to the heaps: what no mutable name holds stays -/
structure Stp (σ : St) (ε ε' : List Ent) (F H F' H' : Hp) : Prop where
  ff : Same F F'
  hh : ∀ b o, H b = some o → Apart σ ε b → H' b = some o
  old : ∀ b, H b ≠ none → Apart σ ε b → F' b = F b
  ap : ∀ b, Apart σ ε b → Apart σ ε' b
  tr : ∀ b, H b ≠ none → H' b ≠ none
section
variable {σ : St} {ε ε1 ε2 : List Ent} {F H F1 H1 F2 H2 : Hp}
theorem Stp.refl : Stp σ ε ε F H F H := ⟨Same.refl F, fun _ _ h _ => h, fun _ _ _ => rfl, fun _ h => h, fun _ h => h⟩
theorem Stp.trans (a : Stp σ ε ε1 F H F1 H1) (b : Stp σ ε1 ε2 F1 H1 F2 H2) : Stp σ ε ε2 F H F2 H2 :=
  ⟨a.ff.trans b.ff, fun c o h p => b.hh c o (a.hh c o h p) (a.ap c p), fun c h p => by
    cases q : H c with
    | none => exact absurd q h
    | some o => exact (b.old c (by rw [a.hh c o q p]; exact fun z => by cases z) (a.ap c p)).trans (a.old c h p), fun c p => b.ap c (a.ap c p), fun c h => b.tr c (a.tr c h)⟩
theorem Ste.stp (s : Ste F H F1 H1) : Stp σ ε ε F H F1 H1 := ⟨s.ff, fun b o h _ => s.hh b o h, fun b h _ => s.old b h, fun _ h => h, fun _ h => Same.some s.hh h⟩
end
section
variable (K : PySem.W.Frag) (C : Ct) (W : WX)
def OkE (F H : Hp) (σ : St) (ε : List Ent) (Q : VK) : D → List Ent → Prop := fun d ε' => ∀ v F' H', Rep K C F' H' σ ε' → Stp σ ε ε' F H F' H' → RepD K F' v d → Q v H'
def ExP (F H : Hp) (σ : St) (ε : List Ent) : Xn → List Ent → Prop := fun x ε' => ∀ c od F' H', Rep K C F' H' σ ε' → Stp σ ε ε' F H F' H' → RepX K F' H' x c od → W c od σ H'
def OkA (F H : Hp) (σ : St) (ε : List Ent) (Q : List V → Hp → Prop) : List D → List Ent → Prop := fun ds ε' => ∀ vs F' H', Rep K C F' H' σ ε' → Stp σ ε ε' F H F' H' → RepL K F' vs ds → Q vs H'
def OkB (F H : Hp) (σ : St) (ε : List Ent) (Q : Bool → Hp → Prop) : Bool → List Ent → Prop := fun b ε' => ∀ F' H', Rep K C F' H' σ ε' → Stp σ ε ε' F H F' H' → Q b H'
def SdE (te : TE) (f : Mo D) : Prop := ∀ F H σ ε Q, Rep K C F H σ ε → Good (f ε) (OkE K C F H σ ε Q) (ExP K C W F H σ ε) → te σ H Q
def SdT (te : TT) (f : Mo Bool) : Prop := ∀ F H σ ε Q, Rep K C F H σ ε → Good (f ε) (OkB K C F H σ ε Q) (ExP K C W F H σ ε) → te σ H Q
def SdA (ta : TA) (f : Mo (List D)) : Prop := ∀ F H σ ε Q, Rep K C F H σ ε → Good (f ε) (OkA K C F H σ ε Q) (ExP K C W F H σ ε) → ta σ H Q
end
theorem ExP.imp {K : PySem.W.Frag} {C : Ct} {W : WX} {F H F' H' : Hp} {σ : St} {ε ε' : List Ent} (s : Stp σ ε ε' F H F' H') {x : Xn} {e : List Ent} (h : ExP K C W F H σ ε x e) : ExP K C W F' H' σ ε' x e :=
  fun c od F2 H2 R s2 r => h c od F2 H2 R (s.trans s2) r

def EvD (X : Cx) (C : Ct) (W : WX) (e : Expr) (f : Mo D) : Prop := ∃ te, PE X e te ∧ SdE X.K C W te f
def TeD (X : Cx) (C : Ct) (W : WX) (e : Expr) (f : Mo Bool) : Prop := ∃ te, PT X e te ∧ SdT X.K C W te f
def TwD (X : Cx) (C : Ct) (W : WX) (e : Expr) (f : Mo Bool) : Prop := ∃ te, PW X e te ∧ SdT X.K C W te f
def EaD (X : Cx) (C : Ct) (W : WX) (es : List Expr) (f : Mo (List D)) : Prop := ∃ te, PA X es te ∧ SdA X.K C W te f

section
variable {X : Cx} {C : Ct} {W : WX} {a b e : Expr} {pos : Pos} {f g : Mo D}

/-! ### names, constants -/
def mVar (i : Nat) : Mo D := fun ε => match ε[i]? with
  | some (.dat d) => some (.ok d ε)
  | some (.own ds) => some (.ok (.lst ds) (ε.set i (.dat (.lst ds))))
  | some (.od b) => some (.ok b.frz (ε.set i (.dat b.frz)))
  | _ => none
theorem ev_var {e : Expr} (i : Nat) (h : PE X e (tVar i)) : EvD X C W e (mVar i) := by
  refine ⟨_, h, fun F H σ ε Q R q => ?_⟩
  unfold mVar at q
  cases he : ε[i]? with
  | none => rw [he] at q; exact q.elim
  | some z =>
    rw [he] at q
    cases z with
    | un => exact q.elim
    | io ds => exact q.elim
    | xc => exact q.elim
    | ib ob => exact q.elim
    | dat d =>
      obtain ⟨v, h1, h2⟩ := R.ent i _ he
      exact ⟨v, h1, q v F H R Stp.refl h2⟩
    | own ds =>
      obtain ⟨l, vs, h1, h2, h3, R'⟩ := R.freezeAt he
      have st : Stp σ ε (ε.set i (.dat (.lst ds))) F H (upd F l (.lst vs)) H := ⟨same_upd h2, fun _ _ h _ => h, fun b _ p => upd_ne (fun z => by
          have := p i _ (by rw [z]; exact h1) he
          cases this), fun b p j e hj hj' => by
        by_cases hij : i = j
        · subst hij
          rw [List.getElem?_set_self (List.getElem?_eq_some_iff.mp he).1] at hj'
          cases hj'; rfl
        · rw [List.getElem?_set_ne hij] at hj'
          exact p j e hj hj', fun _ h => h⟩
      exact ⟨.ref l, h1, q _ _ H R' st (.lst upd_same (h3.mono (same_upd h2)))⟩
    | od ob =>
      obtain ⟨l, o, h1, h2, h3, R'⟩ := R.freezeB he
      have st : Stp σ ε (ε.set i (.dat ob.frz)) F H (upd F l o) H := ⟨same_upd h2, fun _ _ h _ => h, fun b _ p => upd_ne (fun z => by
          have := p i _ (by rw [z]; exact h1) he
          cases this), fun b p j e hj hj' => by
        by_cases hij : i = j
        · subst hij
          rw [List.getElem?_set_self (List.getElem?_eq_some_iff.mp he).1] at hj'
          cases hj'; rfl
        · rw [List.getElem?_set_ne hij] at hj'
          exact p j e hj hj', fun _ h => h⟩
      exact ⟨.ref l, h1, q _ _ H R' st (h3.rep (same_upd h2) upd_same)⟩
theorem ev_c {v : V} {d : D} {e : Expr} (h : PE X e (tC v)) (r : ∀ F : Hp, Same C.F0 F → RepD X.K F v d) : EvD X C W e (pur d) :=
  ⟨_, h, fun F H σ ε Q R q => q v F H R Stp.refl (r F R.ff)⟩
theorem ev_int {i : Int} {j : Nat} : EvD X C W (.Constant (.int i) j pos) (pur (.int i)) := ev_c pe_int fun _ _ => .int i
theorem ev_bl {i : Bool} {j : Nat} : EvD X C W (.Constant (.bool i) j pos) (pur (.bl i)) := ev_c pe_bl fun _ _ => .bl i
theorem ev_non {j : Nat} : EvD X C W (.Constant .none j pos) (pur .non) := ev_c pe_non fun _ _ => .non
theorem ev_str {x : String} {j : Nat} : EvD X C W (.Constant (.str x) j pos) (pur (.str x)) := ev_c pe_str fun _ _ => .str _

/-! ### operators by values -/
def VOp (K : PySem.W.Frag) (r : R2) (g : D → D → Option D) : Prop := ∀ F H x y a b c Q, Same F H → RepD K F x a → RepD K F y b → g a b = some c → (∀ v F' H', Ste F H F' H' → RepD K F' v c → Q v H') → r x y H Q
def mOp (g : D → D → Option D) (f1 f2 : Mo D) : Mo D := bnd f1 fun a => bnd f2 fun b => lft (g a b)
theorem sd_op {K : PySem.W.Frag} {r : R2} {h : D → D → Option D} {ta tb : TE} (hv : VOp K r h) (ha : SdE K C W ta f) (hb : SdE K C W tb g) : SdE K C W (tOp r ta tb) (mOp h f g) := fun F H σ ε Q R q => by
  refine ha F H σ ε _ R (q.bind.imp (fun d e q1 v F1 H1 R1 s1 r1 => ?_) fun x e z => z)
  refine hb F1 H1 σ e _ R1 (q1.bind.imp (fun d2 e2 q2 v2 F2 H2 R2 s2 r2 => ?_) fun x e z => z.imp s1)
  unfold lft at q2
  cases hc : h d d2 with
  | none => rw [hc] at q2; exact q2.elim
  | some c =>
    rw [hc] at q2
    exact hv F2 H2 v v2 d d2 c Q R2.fh (r1.mono s2.ff) r2 hc fun w F3 H3 st rw' => q2 w F3 H3 (R2.step st) ((s1.trans s2).trans st.stp) rw'
theorem ev_op {op : Operator} {r : R2} {h : D → D → Option D} (ho : OpR X (binaryOp op) r) (hv : VOp X.K r h) (ha : EvD X C W a f) (hb : EvD X C W b g) : EvD X C W (.BinOp a op b pos) (mOp h f g) := by
  obtain ⟨ta, pa, sa⟩ := ha
  obtain ⟨tb, pb, sb⟩ := hb
  exact ⟨_, pe_op ho pa pb, sd_op hv sa sb⟩
theorem ev_cmp {op : CmpOp} {r : R2} {h : D → D → Option D} (ho : OpR X (compareOp op) r) (hm : behindInMarks op b = false) (hv : VOp X.K r h) (ha : EvD X C W a f) (hb : EvD X C W b g) : EvD X C W (.Compare a [op] [b] pos) (mOp h f g) := by
  obtain ⟨ta, pa, sa⟩ := ha
  obtain ⟨tb, pb, sb⟩ := hb
  exact ⟨_, pe_cmpR ho pa pb hm, sd_op hv sa sb⟩
theorem ev_ix {r : R2} {h : D → D → Option D} (ho : IxR X r) (hm : PlainIx b) (hv : VOp X.K r h) (ha : EvD X C W a f) (hb : EvD X C W b g) (hp : ∀ ta tb, PE X a ta → PE X b tb → PE X e (tOp r ta tb)) : EvD X C W e (mOp h f g) := by
  obtain ⟨ta, pa, sa⟩ := ha
  obtain ⟨tb, pb, sb⟩ := hb
  exact ⟨_, hp _ _ pa pb, sd_op hv sa sb⟩
def VUn (K : PySem.W.Frag) (r : V → Hp → VK → Prop) (g : D → Option D) : Prop := ∀ F H x a c Q, Same F H → RepD K F x a → g a = some c → (∀ v F' H', Ste F H F' H' → RepD K F' v c → Q v H') → r x H Q
def mUn (g : D → Option D) (f1 : Mo D) : Mo D := bnd f1 fun a => lft (g a)
theorem ev_un {op : UnaryOp} {r : V → Hp → VK → Prop} {h : D → Option D} (ho : UnR X (unaryOp op) r) (hv : VUn X.K r h) (ha : EvD X C W a f) : EvD X C W (.UnaryOp op a pos) (mUn h f) := by
  obtain ⟨ta, pa, sa⟩ := ha
  refine ⟨_, pe_un ho pa, fun F H σ ε Q R q => ?_⟩
  refine sa F H σ ε _ R (q.bind.imp (fun d e q1 v F1 H1 R1 s1 r1 => ?_) fun x e z => z)
  unfold lft at q1
  cases hc : h d with
  | none => rw [hc] at q1; exact q1.elim
  | some c =>
    rw [hc] at q1
    exact hv F1 H1 v d c Q R1.fh r1 hc fun w F3 H3 st rw' => q1 w F3 H3 (R1.step st) (s1.trans st.stp) rw'

/-! ### ints -/
def gI (p : Int → Int → Bool) (h : Int → Int → D) : D → D → Option D
  | .int i, .int j => if p i j then some (h i j) else none
  | _, _ => none
theorem rep_int {K : PySem.W.Frag} {F : Hp} {v : V} {i : Int} (h : RepD K F v (.int i)) : v = .int i := by cases h; rfl
theorem rep_bl {K : PySem.W.Frag} {F : Hp} {v : V} {i : Bool} (h : RepD K F v (.bl i)) : v = .bl i := by cases h; rfl
theorem rep_str {K : PySem.W.Frag} {F : Hp} {v : V} {i : Str} (h : RepD K F v (.str i)) : v = .str i := by cases h; rfl
theorem rep_non {K : PySem.W.Frag} {F : Hp} {v : V} (h : RepD K F v .non) : v = .non := by cases h; rfl
theorem vop_I {K : PySem.W.Frag} {cond : Int → Int → Prop} {p : Int → Int → Bool} {gv : Int → Int → V} {gd : Int → Int → D} (hp : ∀ i j, p i j = true → cond i j) (hr : ∀ (F : Hp) i j, RepD K F (gv i j) (gd i j)) : VOp K (rI cond gv) (gI p gd) := by
  intro F H x y a b c Q s ra rb hg q
  unfold gI at hg
  split at hg
  · rename_i i j
    split at hg
    · rename_i hpq
      cases hg
      exact ⟨i, j, rep_int ra, rep_int rb, hp i j hpq, q _ F H (Ste.refl s) (hr F i j)⟩
    · cases hg
  · cases hg
theorem vop_I0 {K : PySem.W.Frag} {gv : Int → Int → V} {gd : Int → Int → D} (hr : ∀ (F : Hp) i j, RepD K F (gv i j) (gd i j)) : VOp K (rI0 gv) (gI (fun _ _ => true) gd) := by
  intro F H x y a b c Q s ra rb hg q
  unfold gI at hg
  split at hg
  · rename_i i j
    cases hg
    exact ⟨i, j, rep_int ra, rep_int rb, q _ F H (Ste.refl s) (hr F i j)⟩
  · cases hg
/-- factors of together less than 2^27 bits -/
def mulOk (i j : Int) : Bool := decide (i.natAbs.log2 + j.natAbs.log2 < 134217000)
def CMulX (i j : Int) : Prop := i.natAbs.log2 + j.natAbs.log2 < 134217000
theorem CMulX.ok {i j : Int} (h : CMulX i j) : PySem.IntMulOk i j := by
  have b : ∀ x : Int, Builtin.Int.intBits x ≤ x.natAbs.log2 + 1 := fun x => by
    unfold Builtin.Int.intBits
    split <;> omega
  have h1 := b i
  have h2 := b j
  have h3 : i.natAbs.log2 + j.natAbs.log2 < 134217000 := h
  have e : bitsLine = 134217728 := by decide
  intro z
  have z2 := (Bool.and_eq_true_iff.mp z).2
  unfold Builtin.Int.intTooBig at z2
  have z4 := of_decide_eq_true z2
  rw [e] at z4
  omega
theorem op_mulX : OpR X (binaryOp .Mult) (rI CMulX fun i j => .int (i * j)) := opI fun _ _ _ _ _ _ _ hc q => PyProof.Rows.mul_int q hc.ok
def gAdd := gI (fun _ _ => true) fun i j => .int (i + j)
def gSub := gI (fun _ _ => true) fun i j => .int (i - j)
def gMul := gI mulOk fun i j => .int (i * j)
def gDiv := gI (fun _ j => decide (0 < j ∧ j < 1073741824)) fun i j => .int (i / j)
def gMod := gI (fun _ j => decide (0 < j)) fun i j => .int (i % j)
def gPow := gI (fun i j => decide (0 ≤ j ∧ j ≤ 1000000 ∧ i.natAbs < 2 ^ 64)) fun i j => .int (i ^ j.toNat)
def gLt := gI (fun _ _ => true) fun i j => .bl (decide (i < j))
def gLe := gI (fun _ _ => true) fun i j => .bl (decide (i ≤ j))
def gGt := gI (fun _ _ => true) fun i j => .bl (decide (j < i))
def gGe := gI (fun _ _ => true) fun i j => .bl (decide (j ≤ i))
theorem ev_add (ha : EvD X C W a f) (hb : EvD X C W b g) : EvD X C W (.BinOp a .Add b pos) (mOp gAdd f g) := ev_op op_add (vop_I0 fun _ _ _ => .int _) ha hb
theorem ev_sub (ha : EvD X C W a f) (hb : EvD X C W b g) : EvD X C W (.BinOp a .Sub b pos) (mOp gSub f g) := ev_op op_sub (vop_I0 fun _ _ _ => .int _) ha hb
theorem ev_mul (ha : EvD X C W a f) (hb : EvD X C W b g) : EvD X C W (.BinOp a .Mult b pos) (mOp gMul f g) := ev_op op_mulX (vop_I (fun i j h => (show CMulX i j from of_decide_eq_true (p := i.natAbs.log2 + j.natAbs.log2 < 134217000) h)) fun _ _ _ => .int _) ha hb
theorem ev_div (ha : EvD X C W a f) (hb : EvD X C W b g) : EvD X C W (.BinOp a .FloorDiv b pos) (mOp gDiv f g) := ev_op op_fdiv (vop_I (fun i j h => (show CDiv i j from of_decide_eq_true (p := 0 < j ∧ j < 1073741824) h)) fun _ _ _ => .int _) ha hb
theorem ev_mod (ha : EvD X C W a f) (hb : EvD X C W b g) : EvD X C W (.BinOp a .Mod b pos) (mOp gMod f g) := ev_op op_mod (vop_I (fun _ _ h => of_decide_eq_true h) fun _ _ _ => .int _) ha hb
theorem ev_pow (ha : EvD X C W a f) (hb : EvD X C W b g) : EvD X C W (.BinOp a .Pow b pos) (mOp gPow f g) := ev_op op_pow (vop_I (fun i j h => (show CPow i j from of_decide_eq_true (p := 0 ≤ j ∧ j ≤ 1000000 ∧ i.natAbs < 2 ^ 64) h)) fun _ _ _ => .int _) ha hb
theorem ev_lt (ha : EvD X C W a f) (hb : EvD X C W b g) : EvD X C W (.Compare a [.Lt] [b] pos) (mOp gLt f g) := ev_cmp op_lt (nomark _) (vop_I0 fun _ _ _ => .bl _) ha hb
theorem ev_le (ha : EvD X C W a f) (hb : EvD X C W b g) : EvD X C W (.Compare a [.LtE] [b] pos) (mOp gLe f g) := ev_cmp op_le (nomark _) (vop_I0 fun _ _ _ => .bl _) ha hb
theorem ev_gt (ha : EvD X C W a f) (hb : EvD X C W b g) : EvD X C W (.Compare a [.Gt] [b] pos) (mOp gGt f g) := ev_cmp op_gt (nomark _) (vop_I0 fun _ _ _ => .bl _) ha hb
theorem ev_ge (ha : EvD X C W a f) (hb : EvD X C W b g) : EvD X C W (.Compare a [.GtE] [b] pos) (mOp gGe f g) := ev_cmp op_ge (nomark _) (vop_I0 fun _ _ _ => .bl _) ha hb
def gNeg : D → Option D
  | .int i => some (.int (-i))
  | _ => none
theorem ev_neg (ha : EvD X C W a f) : EvD X C W (.UnaryOp .USub a pos) (mUn gNeg f) := ev_un un_neg (fun F H x d c Q s r hg q => by
  unfold gNeg at hg
  split at hg
  · cases hg; rename_i i; exact ⟨i, rep_int r, q _ F H (Ste.refl s) (.int _)⟩
  · cases hg) ha
end
end DL

set_option Elab.async false
set_option linter.all false
set_option maxRecDepth 100000
namespace DL
open PySem PySem.Spec L2
section
variable {X : Cx} {C : Ct} {W : WX} {a b c e : Expr} {pos : Pos} {f g h : Mo D}

/-! ### arguments -/
def mCons (f : Mo D) (g : Mo (List D)) : Mo (List D) := bnd f fun d => bnd g fun ds => pur (d :: ds)
theorem ea_nil : EaD X C W [] (pur []) := ⟨_, pa_nil, fun F H σ ε Q R q => q [] F H R Stp.refl .nil⟩
theorem ea_cons {es : List Expr} {fs : Mo (List D)} (he : EvD X C W e f) (hr : EaD X C W es fs) (hs : starEach (e :: es) X.env = (false, eval e X.env) :: starEach es X.env := by rfl) : EaD X C W (e :: es) (mCons f fs) := by
  obtain ⟨te, p1, s1⟩ := he
  obtain ⟨tr, p2, s2⟩ := hr
  refine ⟨_, pa_cons p1 p2 hs, fun F H σ ε Q R q => ?_⟩
  refine s1 F H σ ε _ R (q.bind.imp (fun d e q1 v F1 H1 R1 st1 r1 => ?_) fun x e z => z)
  refine s2 F1 H1 σ e _ R1 (q1.bind.imp (fun ds e2 q2 vs F2 H2 R2 st2 r2 => ?_) fun x e z => z.imp st1)
  exact q2 (v :: vs) F2 H2 R2 (st1.trans st2) (.cons (r1.mono st2.ff) r2)

/-! ### displays -/
def mTup (f : Mo (List D)) : Mo D := bnd f fun ds => lft (if ds.length ≤ 1000 then some (.tup ds) else none)
def mLst (f : Mo (List D)) : Mo D := bnd f fun ds => lft (if ds.length ≤ 1000 then some (.lst ds) else none)
theorem le_line {n : Nat} (h : n ≤ 1000) : n ≤ sizeLine := Nat.le_of_lt (small1000 h)
theorem ev_tup {es : List Expr} {fs : Mo (List D)} {k : Nat} (h : EaD X C W es fs) : EvD X C W (.Tuple es k pos) (mTup fs) := by
  obtain ⟨te, p1, s1⟩ := h
  refine ⟨_, pe_tup p1, fun F H σ ε Q R q => ?_⟩
  refine s1 F H σ ε _ R (q.bind.imp (fun ds e q1 vs F1 H1 R1 st1 r1 => ?_) fun x e z => z)
  unfold lft at q1
  by_cases hl : ds.length ≤ 1000
  · rw [if_pos hl] at q1
    refine ⟨by rw [r1.length]; exact le_line hl, fun p hp => ?_⟩
    have st := Ste.laid (o := .tup vs) R1.fh hp
    exact q1 _ _ _ (R1.step st) (st1.trans st.stp) (.tup (.inl (.inl upd_same)) (r1.mono st.ff))
  · rw [if_neg hl] at q1; exact q1.elim
theorem ev_lst {es : List Expr} {fs : Mo (List D)} (h : EaD X C W es fs) : EvD X C W (.List es pos) (mLst fs) := by
  obtain ⟨te, p1, s1⟩ := h
  refine ⟨_, pe_lst p1, fun F H σ ε Q R q => ?_⟩
  refine s1 F H σ ε _ R (q.bind.imp (fun ds e q1 vs F1 H1 R1 st1 r1 => ?_) fun x e z => z)
  unfold lft at q1
  by_cases hl : ds.length ≤ 1000
  · rw [if_pos hl] at q1
    refine ⟨by rw [r1.length]; exact le_line hl, fun p hp => ?_⟩
    have st := Ste.laid (o := .lst vs) R1.fh hp
    exact q1 _ _ _ (R1.step st) (st1.trans st.stp) (.lst upd_same (r1.mono st.ff))
  · rw [if_neg hl] at q1; exact q1.elim

/-! ### truth -/
def asB : D → Option Bool
  | .bl b => some b
  | _ => none
def mB (f : Mo D) : Mo Bool := bnd f fun d => lft (asB d)
theorem asB_eq {d : D} {k : Bool} (h : asB d = some k) : d = .bl k := by
  unfold asB at h
  split at h
  · cases h; rfl
  · cases h
theorem te_val {e : Expr} (h : EvD X C W e f) (he : ∀ whole, isTrue e X.env whole = (do let v ← whole; standAt e.pos; holding [v] (truthy v)) := by intro _; rfl) : TeD X C W e (mB f) := by
  obtain ⟨te, p1, s1⟩ := h
  refine ⟨_, pt_val p1 he, fun F H σ ε Q R q => ?_⟩
  refine s1 F H σ ε _ R (q.bind.imp (fun d e q1 v F1 H1 R1 st1 r1 => ?_) fun x e z => z)
  unfold lft at q1
  cases hk : asB d with
  | none => rw [hk] at q1; exact q1.elim
  | some k =>
    rw [hk] at q1
    have := asB_eq hk
    subst this
    exact ⟨k, rep_bl r1, q1 F1 H1 R1 st1⟩
def mNot (f : Mo Bool) : Mo Bool := bnd f fun b => pur !b
theorem te_not {f : Mo Bool} (h : TeD X C W a f) : TeD X C W (.UnaryOp .Not a pos) (mNot f) := by
  obtain ⟨te, p1, s1⟩ := h
  refine ⟨_, pt_not p1, fun F H σ ε Q R q => ?_⟩
  exact s1 F H σ ε _ R (q.bind.imp (fun d e q1 F1 H1 R1 st1 => q1 F1 H1 R1 st1) fun x e z => z)
def mAnd (f g : Mo Bool) : Mo Bool := bnd f fun b => if b = true then g else pur false
def mOr (f g : Mo Bool) : Mo Bool := bnd f fun b => if b = true then pur true else g
theorem te_w {f : Mo Bool} (h : TwD X C W a f) : TeD X C W a f := by
  obtain ⟨te, p1, s1⟩ := h
  exact ⟨te, p1.pt, s1⟩
theorem tw_and1 {f : Mo Bool} (h : TeD X C W a f) : TwD X C W (.BoolOp .And [a] pos) f := by
  obtain ⟨te, p1, s1⟩ := h
  exact ⟨te, pw_and1 p1, s1⟩
theorem tw_or1 {f : Mo Bool} (h : TeD X C W a f) : TwD X C W (.BoolOp .Or [a] pos) f := by
  obtain ⟨te, p1, s1⟩ := h
  exact ⟨te, pw_or1 p1, s1⟩
theorem tw_and {f g : Mo Bool} {rest : List Expr} (ha : TeD X C W a f) (hb : TwD X C W (.BoolOp .And (b :: rest) pos) g) : TwD X C W (.BoolOp .And (a :: b :: rest) pos) (mAnd f g) := by
  obtain ⟨te, p1, s1⟩ := ha
  obtain ⟨tb, p2, s2⟩ := hb
  refine ⟨_, pw_and p1 p2, fun F H σ ε Q R q => ?_⟩
  refine s1 F H σ ε _ R (q.bind.imp (fun d e q1 F1 H1 R1 st1 => ?_) fun x e z => z)
  cases d with
  | true =>
    refine iteT ?_
    rw [if_pos rfl] at q1
    exact s2 F1 H1 σ e _ R1 (q1.imp (fun d2 e2 q2 F2 H2 R2 st2 => q2 F2 H2 R2 (st1.trans st2)) fun x e z => z.imp st1)
  | false =>
    refine iteF ?_
    exact q1 F1 H1 R1 st1
theorem tw_or {f g : Mo Bool} {rest : List Expr} (ha : TeD X C W a f) (hb : TwD X C W (.BoolOp .Or (b :: rest) pos) g) : TwD X C W (.BoolOp .Or (a :: b :: rest) pos) (mOr f g) := by
  obtain ⟨te, p1, s1⟩ := ha
  obtain ⟨tb, p2, s2⟩ := hb
  refine ⟨_, pw_or p1 p2, fun F H σ ε Q R q => ?_⟩
  refine s1 F H σ ε _ R (q.bind.imp (fun d e q1 F1 H1 R1 st1 => ?_) fun x e z => z)
  cases d with
  | false =>
    refine iteF ?_
    rw [if_neg Bool.false_ne_true] at q1
    exact s2 F1 H1 σ e _ R1 (q1.imp (fun d2 e2 q2 F2 H2 R2 st2 => q2 F2 H2 R2 (st1.trans st2)) fun x e z => z.imp st1)
  | true =>
    refine iteT ?_
    exact q1 F1 H1 R1 st1
/-! as values -/
def mAndV (f g : Mo D) : Mo D := bnd (mB f) fun b => if b = true then g else pur (.bl false)
def mOrV (f g : Mo D) : Mo D := bnd (mB f) fun b => if b = true then pur (.bl true) else g
def mNotV (f : Mo D) : Mo D := bnd (mB f) fun b => pur (.bl !b)
theorem good_mB {f : Mo D} {ε : List Ent} {p : Bool → List Ent → Prop} {q : Xn → List Ent → Prop} (h : Good (mB f ε) p q) : Good (f ε) (fun d e => ∃ k, d = .bl k ∧ p k e) q := by
  refine h.bind.imp (fun d e q1 => ?_) fun x e z => z
  unfold lft at q1
  cases hk : asB d with
  | none => rw [hk] at q1; exact q1.elim
  | some k => rw [hk] at q1; exact ⟨k, asB_eq hk, q1⟩
theorem ev_one {op : BoolOp} (h : EvD X C W a f) : EvD X C W (.BoolOp op [a] pos) f := by
  obtain ⟨te, p1, s1⟩ := h
  exact ⟨te, pe_one p1, s1⟩
theorem ev_and {rest : List Expr} (ha : EvD X C W a f) (hb : EvD X C W (.BoolOp .And (b :: rest) pos) g) : EvD X C W (.BoolOp .And (a :: b :: rest) pos) (mAndV f g) := by
  obtain ⟨te, p1, s1⟩ := ha
  obtain ⟨tb, p2, s2⟩ := hb
  refine ⟨_, pe_and p1 p2, fun F H σ ε Q R q => ?_⟩
  refine s1 F H σ ε _ R ((good_mB q.bind).imp (fun d e ⟨k, ek, q1⟩ v F1 H1 R1 st1 r1 => ?_) fun x e z => z)
  subst ek
  refine ⟨k, rep_bl r1, ?_⟩
  cases k with
  | true =>
    refine iteT ?_
    rw [if_pos rfl] at q1
    exact s2 F1 H1 σ e _ R1 (q1.imp (fun d2 e2 q2 v2 F2 H2 R2 st2 r2 => q2 v2 F2 H2 R2 (st1.trans st2) r2) fun x e z => z.imp st1)
  | false =>
    refine iteF ?_
    exact q1 _ F1 H1 R1 st1 (.bl false)
theorem ev_or {rest : List Expr} (ha : EvD X C W a f) (hb : EvD X C W (.BoolOp .Or (b :: rest) pos) g) : EvD X C W (.BoolOp .Or (a :: b :: rest) pos) (mOrV f g) := by
  obtain ⟨te, p1, s1⟩ := ha
  obtain ⟨tb, p2, s2⟩ := hb
  refine ⟨_, pe_or p1 p2, fun F H σ ε Q R q => ?_⟩
  refine s1 F H σ ε _ R ((good_mB q.bind).imp (fun d e ⟨k, ek, q1⟩ v F1 H1 R1 st1 r1 => ?_) fun x e z => z)
  subst ek
  refine ⟨k, rep_bl r1, ?_⟩
  cases k with
  | false =>
    refine iteF ?_
    rw [if_neg Bool.false_ne_true] at q1
    exact s2 F1 H1 σ e _ R1 (q1.imp (fun d2 e2 q2 v2 F2 H2 R2 st2 r2 => q2 v2 F2 H2 R2 (st1.trans st2) r2) fun x e z => z.imp st1)
  | true =>
    refine iteT ?_
    exact q1 _ F1 H1 R1 st1 (.bl true)
theorem ev_not (ha : EvD X C W a f) : EvD X C W (.UnaryOp .Not a pos) (mNotV f) := by
  obtain ⟨te, p1, s1⟩ := ha
  refine ⟨_, pe_not p1, fun F H σ ε Q R q => ?_⟩
  refine s1 F H σ ε _ R ((good_mB q.bind).imp (fun d e ⟨k, ek, q1⟩ v F1 H1 R1 st1 r1 => ?_) fun x e z => z)
  subst ek
  exact ⟨k, rep_bl r1, q1 _ F1 H1 R1 st1 (.bl _)⟩
def mIf (t : Mo Bool) (f g : Mo D) : Mo D := bnd t fun b => if b = true then f else g
theorem ev_if {t : Mo Bool} (hc : TeD X C W c t) (ha : EvD X C W a f) (hb : EvD X C W b g) : EvD X C W (.IfExp c a b pos) (mIf t f g) := by
  obtain ⟨tc, p0, s0⟩ := hc
  obtain ⟨te, p1, s1⟩ := ha
  obtain ⟨tb, p2, s2⟩ := hb
  refine ⟨_, pe_ifExp p0 p1 p2, fun F H σ ε Q R q => ?_⟩
  refine s0 F H σ ε _ R (q.bind.imp (fun d e q1 F1 H1 R1 st1 => ?_) fun x e z => z)
  cases d with
  | true =>
    refine iteT ?_
    rw [if_pos rfl] at q1
    exact s1 F1 H1 σ e _ R1 (q1.imp (fun d2 e2 q2 v2 F2 H2 R2 st2 r2 => q2 v2 F2 H2 R2 (st1.trans st2) r2) fun x e z => z.imp st1)
  | false =>
    refine iteF ?_
    rw [if_neg Bool.false_ne_true] at q1
    exact s2 F1 H1 σ e _ R1 (q1.imp (fun d2 e2 q2 v2 F2 H2 R2 st2 r2 => q2 v2 F2 H2 R2 (st1.trans st2) r2) fun x e z => z.imp st1)
/-- a op b op' c -/
def mChain (g1 g2 : D → D → Option D) (f g h : Mo D) : Mo D := bnd f fun x => bnd g fun y => bnd (mB (lft (g1 x y))) fun k => if k = true then bnd h fun z => lft (g2 y z) else pur (.bl false)
theorem ev_chain {op op' : CmpOp} {r r' : R2} {g1 g2 : D → D → Option D} (ho : OpR X (compareOp op) r) (ho' : OpR X (compareOp op') r') (hv : VOp X.K r g1) (hv' : VOp X.K r' g2) (ha : EvD X C W a f) (hb : EvD X C W b g) (hc : EvD X C W c h)
    (hp : ∀ ta tb tc, PE X a ta → PE X b tb → PE X c tc → PE X e (tChain r r' ta tb tc)) : EvD X C W e (mChain g1 g2 f g h) := by
  obtain ⟨ta, p0, s0⟩ := ha
  obtain ⟨tb, p1, s1⟩ := hb
  obtain ⟨tc, p2, s2⟩ := hc
  refine ⟨_, hp _ _ _ p0 p1 p2, fun F H σ ε Q R q => ?_⟩
  refine s0 F H σ ε _ R (q.bind.imp (fun d e q1 v F1 H1 R1 st1 r1 => ?_) fun x e z => z)
  refine s1 F1 H1 σ e _ R1 (q1.bind.imp (fun d2 e2 q2 v2 F2 H2 R2 st2 r2 => ?_) fun x e z => z.imp st1)
  have q3 := good_mB q2.bind
  unfold lft at q3
  cases hk : g1 d d2 with
  | none => rw [hk] at q3; exact q3.elim
  | some k =>
    rw [hk] at q3
    obtain ⟨kb, ek, q4⟩ := q3
    subst ek
    refine hv F2 H2 v v2 d d2 _ _ R2.fh (r1.mono st2.ff) r2 hk fun w F3 H3 st3 rw' => ⟨kb, rep_bl rw', ?_⟩
    have R3 := R2.step st3
    have stA := (st1.trans st2).trans (st3.stp (σ := σ) (ε := e2))
    cases kb with
    | false =>
      refine iteF ?_
      exact q4 _ F3 H3 R3 stA (.bl false)
    | true =>
      refine iteT ?_
      rw [if_pos rfl] at q4
      refine s2 F3 H3 σ e2 _ R3 (q4.bind.imp (fun d4 e4 q5 v4 F4 H4 R4 st4 r4 => ?_) fun x e z => z.imp stA)
      cases hg : g2 d2 d4 with
      | none => rw [hg] at q5; exact q5.elim
      | some y =>
        rw [hg] at q5
        exact hv' F4 H4 v2 v4 d2 d4 _ _ R4.fh ((r2.mono st3.ff).mono st4.ff) r4 hg fun w5 F5 H5 st5 rw5 => q5 w5 F5 H5 (R4.step st5) ((stA.trans st4).trans st5.stp) rw5

/-! ### calls of built-ins -/
def VCall (K : PySem.W.Frag) (r : List V → Hp → VK → Prop) (g : List D → Option D) : Prop := ∀ F H xs ds c Q, Same F H → RepL K F xs ds → g ds = some c → (∀ v F' H', Ste F H F' H' → RepD K F' v c → Q v H') → r xs H Q
def mCall (g : List D → Option D) (f : Mo (List D)) : Mo D := bnd f fun ds => lft (g ds)
theorem ev_cb {r : List V → Hp → VK → Prop} {g : List D → Option D} {es : List Expr} {fs : Mo (List D)} (hv : VCall X.K r g) (ha : EaD X C W es fs) (hp : ∀ ta, PA X es ta → PE X e (tCB r ta)) : EvD X C W e (mCall g fs) := by
  obtain ⟨ta, p1, s1⟩ := ha
  refine ⟨_, hp _ p1, fun F H σ ε Q R q => ?_⟩
  refine s1 F H σ ε _ R (q.bind.imp (fun ds e q1 vs F1 H1 R1 st1 r1 => ?_) fun x e z => z)
  unfold lft at q1
  cases hg : g ds with
  | none => rw [hg] at q1; exact q1.elim
  | some c =>
    rw [hg] at q1
    exact hv F1 H1 vs ds c Q R1.fh r1 hg fun w F3 H3 st rw' => q1 w F3 H3 (R1.step st) (st1.trans st.stp) rw'

/-! ### what a def does, by data -/
inductive Ans where
  | ret (d : D)
  | exc (x : Xn)
/-- a def without mutable arguments -/
def SpP (K : PySem.W.Frag) (n : Nat) (m : List D → Option Ans) : Sp := fun vs H Q E => vs.length = n ∧ ∃ F ds, Same F H ∧ RepL K F vs ds ∧ match m ds with
  | some (.ret d) => ∀ v F' H', Ste F H F' H' → RepD K F' v d → Q v H'
  | some (.exc x) => ∀ c od F' H', Ste F H F' H' → RepX K F' H' x c od → E c od H'
  | none => False
def ansM (o : Option Ans) : Mo D := fun ε => match o with
  | some (.ret d) => some (.ok d ε)
  | some (.exc x) => some (.ex x ε)
  | none => none
/-- a def whose first argument is a list that it changes -/
def SpQ (K : PySem.W.Frag) (n : Nat) (m : List D → List D → Option (Ans × List D)) : Sp := fun vs H Q E => vs.length = n ∧ ∃ F l us ws ps ds, vs = .ref l :: ws ∧ Same F H ∧ H l = some (.lst us) ∧ F l = none ∧ RepL K F us ps ∧ RepL K F ws ds ∧ match m ps ds with
  | some (.ret d, ps') => ∀ v F' H' us', Same F F' → Same F' H' → (∀ b o, H b = some o → b ≠ l → H' b = some o) → (∀ b, H b ≠ none → F' b = F b) → H' l = some (.lst us') → RepL K F' us' ps' → RepD K F' v d → Q v H'
  | some (.exc x, ps') => ∀ c od F' H' us', Same F F' → Same F' H' → (∀ b o, H b = some o → b ≠ l → H' b = some o) → (∀ b, H b ≠ none → F' b = F b) → H' l = some (.lst us') → RepL K F' us' ps' → RepX K F' H' x c od → E c od H'
  | none => False
end
def Ent.get : Ent → Option (List D)
  | .own ds => some ds
  | .io ds => some ds
  | _ => none
def Ent.put (ds : List D) : Ent → Ent
  | .own _ => .own ds
  | .io _ => .io ds
  | e => e
section
variable {K : PySem.W.Frag} {C : Ct} {F H F' H' : Hp} {σ : St} {ε : List Ent}
theorem Rep.at (R : Rep K C F H σ ε) {i : Nat} {e : Ent} {ps : List D} (he : ε[i]? = some e) (hp : e.get = some ps) : ∃ l us, σ[i]? = some (some (.ref l)) ∧ H l = some (.lst us) ∧ F l = none ∧ RepL K F us ps ∧ e.mut = true := by
  have q := R.ent i e he
  cases e with
  | un => cases hp
  | xc => cases hp
  | dat d => cases hp
  | own ds =>
    cases hp
    obtain ⟨l, us, a, b, c, d, _⟩ := q
    exact ⟨l, us, a, b, c, d, rfl⟩
  | io ds =>
    cases hp
    obtain ⟨l, us, a, b, c, d, _⟩ := q
    exact ⟨l, us, a, b, c, d, rfl⟩
  | od ob => cases hp
  | ib ob => cases hp
theorem Rep.apart (R : Rep K C F H σ ε) {i : Nat} {e : Ent} {l b : Addr} (he : ε[i]? = some e) (hm : e.mut = true) (ha : σ[i]? = some (some (.ref l))) (p : Apart σ ε b) : b ≠ l := fun z => by
  have := p i e (by rw [z]; exact ha) he
  rw [this] at hm; cases hm
/-- a mutable list changes, and new things may have come -/
theorem Rep.callQ (R : Rep K C F H σ ε) {i : Nat} {e : Ent} {ps ps' : List D} {l : Addr} {us' : List V} (he : ε[i]? = some e) (hp : e.get = some ps) (ha : σ[i]? = some (some (.ref l)))
    (h1 : Same F F') (h2 : Same F' H') (h3 : ∀ b o, H b = some o → b ≠ l → H' b = some o) (h4 : ∀ b, H b ≠ none → F' b = F b) (h5 : H' l = some (.lst us')) (h6 : RepL K F' us' ps') :
    Rep K C F' H' σ (ε.set i (e.put ps')) ∧ Stp σ ε (ε.set i (e.put ps')) F H F' H' := by
  obtain ⟨l2, us, a, b, c, d, hm⟩ := R.at he hp
  rw [ha] at a
  cases a
  have fl : F' l = none := (h4 l (by rw [b]; exact fun z => by cases z)).trans c
  have st : Ste F H F' (fun x => if x = l then H l else H' x) := ⟨h1, fun x o q => by
      by_cases hx : x = l
      · rw [hx, fl] at q; cases q
      · show (if x = l then H l else H' x) = _
        rw [if_neg hx]; exact h2 x o q, h4, fun x o q => by
      show (if x = l then H l else H' x) = _
      by_cases hx : x = l
      · rw [if_pos hx, ← hx]; exact q
      · rw [if_neg hx]; exact h3 x o q hx⟩
  have R1 := R.step st
  have R2 := R1.change he hm ha h6 (e' := e.put ps') (by
    cases e with
    | un => cases hp
    | xc => cases hp
    | dat d => cases hp
    | own ds => exact .inl ⟨_, rfl, rfl⟩
    | io ds => exact .inr ⟨_, rfl, rfl⟩
    | od ob => cases hp
    | ib ob => cases hp)
  have eH : upd (fun x => if x = l then H l else H' x) l (.lst us') = H' := by
    funext x
    by_cases hx : x = l
    · subst hx; rw [upd_same, h5]
    · rw [upd_ne hx, if_neg hx]
  rw [eH] at R2
  refine ⟨R2, h1, fun x o q p => h3 x o q (R.apart he hm ha p), fun x q _ => h4 x q, fun x p j e2 hj hj' => ?_, fun x q => by
    by_cases hx : x = l
    · rw [hx, h5]; exact fun z => by cases z
    · cases qq : H x with
      | none => exact absurd qq q
      | some o => rw [h3 x o qq hx]; exact fun z => by cases z⟩
  by_cases hij : i = j
  · subst hij
    have := p i e hj he
    rw [this] at hm; cases hm
  · rw [List.getElem?_set_ne hij] at hj'
    exact p j e2 hj hj'
end
section
variable {X : Cx} {C : Ct} {W : WX} {a b c e : Expr} {pos : Pos} {f g h : Mo D}
def mFn (n : Nat) (m : List D → Option Ans) (f : Mo (List D)) : Mo D := bnd f fun ds => if ds.length = n then ansM (m ds) else lft none
theorem ev_fn {n : Nat} {m : List D → Option Ans} {es : List Expr} {fs : Mo (List D)} (ha : EaD X C W es fs) (hp : ∀ ta, PA X es ta → PE X e (tCallS (SpP X.K n m) (WE W) ta)) : EvD X C W e (mFn n m fs) := by
  obtain ⟨ta, p1, s1⟩ := ha
  refine ⟨_, hp _ p1, fun F H σ ε Q R q => ?_⟩
  refine s1 F H σ ε _ R (q.bind.imp (fun ds e q1 vs F1 H1 R1 st1 r1 => ?_) fun x e z => z)
  by_cases hl : ds.length = n
  · rw [if_pos hl] at q1
    refine ⟨by rw [r1.length]; exact hl, F1, ds, R1.fh, r1, ?_⟩
    unfold ansM at q1
    cases hm : m ds with
    | none => rw [hm] at q1; exact q1.elim
    | some an =>
      rw [hm] at q1
      cases an with
      | ret d => exact fun v F' H' st r => q1 v F' H' (R1.step st) (st1.trans st.stp) r
      | exc x => exact fun c od F' H' st r => q1 c od F' H' (R1.step st) (st1.trans st.stp) r
  · rw [if_neg hl] at q1; exact q1.elim
def mFnQ (i n : Nat) (m : List D → List D → Option (Ans × List D)) (f : Mo (List D)) : Mo D := fun ε0 => match (ε0[i]?).bind Ent.get with
  | none => none
  | some _ => bnd f (fun ds ε => match ε[i]? with
    | none => none
    | some e => match e.get with
      | none => none
      | some ps => if ds.length + 1 = n then (match m ps ds with
        | some (.ret d, ps') => some (.ok d (ε.set i (e.put ps')))
        | some (.exc x, ps') => some (.ex x (ε.set i (e.put ps')))
        | none => none) else none) ε0
theorem ev_fnQ {i n : Nat} {m : List D → List D → Option (Ans × List D)} {en : Expr} {es : List Expr} {fs : Mo (List D)} (hn : PE X en (tVar i)) (ha : EaD X C W es fs) (hp : ∀ ta, PA X es ta → PE X e (tCallS (SpQ X.K n m) (WE W) (tCons (tVar i) ta))) : EvD X C W e (mFnQ i n m fs) := by
  obtain ⟨ta, p1, s1⟩ := ha
  refine ⟨_, hp _ p1, fun F H σ ε Q R q => ?_⟩
  unfold mFnQ at q
  cases h0 : ε[i]? with
  | none => rw [h0] at q; exact q.elim
  | some e0 =>
    cases h1 : e0.get with
    | none => rw [h0] at q; simp only [Option.bind_some, h1] at q; exact q.elim
    | some p0 =>
      rw [h0] at q
      simp only [Option.bind_some, h1] at q
      obtain ⟨l, us0, a0, _⟩ := R.at h0 h1
      refine ⟨.ref l, a0, ?_⟩
      refine s1 F H σ ε _ R (q.bind.imp (fun ds e q1 vs F1 H1 R1 st1 r1 => ?_) fun x e z => z)
      cases h2 : e[i]? with
      | none => rw [h2] at q1; exact q1.elim
      | some e1 =>
        rw [h2] at q1
        dsimp only at q1
        cases h3 : e1.get with
        | none => rw [h3] at q1; exact q1.elim
        | some ps =>
          rw [h3] at q1
          dsimp only at q1
          by_cases hl : ds.length + 1 = n
          · rw [if_pos hl] at q1
            obtain ⟨l2, us, a, b, c, d, hm⟩ := R1.at h2 h3
            rw [a0] at a
            cases a
            refine ⟨by rw [List.length_cons, r1.length]; exact hl, F1, l, us, vs, ps, ds, rfl, R1.fh, b, c, d, r1, ?_⟩
            cases hmm : m ps ds with
            | none => rw [hmm] at q1; exact q1.elim
            | some an =>
              rw [hmm] at q1
              obtain ⟨an, ps'⟩ := an
              cases an with
              | ret d =>
                intro v F' H' us' k1 k2 k3 k4 k5 k6 k7
                obtain ⟨R2, st2⟩ := R1.callQ h2 h3 a0 k1 k2 k3 k4 k5 k6
                exact q1 v F' H' R2 (st1.trans st2) k7
              | exc x =>
                intro c od F' H' us' k1 k2 k3 k4 k5 k6 k7
                obtain ⟨R2, st2⟩ := R1.callQ h2 h3 a0 k1 k2 k3 k4 k5 k6
                exact q1 c od F' H' R2 (st1.trans st2) k7
          · rw [if_neg hl] at q1; exact q1.elim
/-- xs.pop() of a list of one's own -/
def mPop (i : Nat) : Mo D := fun ε => match ε[i]? with
  | none => none
  | some e => match e.get with
    | none => none
    | some ps => match ps[ps.length - 1]? with
      | none => none
      | some d => some (.ok d (ε.set i (e.put ps.dropLast)))
theorem ev_pop {i : Nat} (hp : PE X e (tBM0 X.K "list" rPop (tVar i))) : EvD X C W e (mPop i) := by
  refine ⟨_, hp, fun F H σ ε Q R q => ?_⟩
  unfold mPop at q
  cases h2 : ε[i]? with
  | none => rw [h2] at q; exact q.elim
  | some e1 =>
    rw [h2] at q
    dsimp only at q
    cases h3 : e1.get with
    | none => rw [h3] at q; exact q.elim
    | some ps =>
      rw [h3] at q
      dsimp only at q
      obtain ⟨l, us, a, b, c, d, hm⟩ := R.at h2 h3
      cases h4 : ps[ps.length - 1]? with
      | none => rw [h4] at q; exact q.elim
      | some y =>
        rw [h4] at q
        obtain ⟨v, hv, rv⟩ := d.get h4
        refine ⟨.ref l, a, .inl ⟨rfl, us, .inl (.inl b)⟩, l, us, v, rfl, rfl, b, by rw [d.length]; exact hv, ?_⟩
        obtain ⟨R2, st2⟩ := R.callQ (F' := F) (H' := upd H l (.lst us.dropLast)) h2 h3 a (Same.refl F) (fun x o q => by
          rw [upd_ne (fun z => by rw [z, c] at q; cases q)]; exact R.fh x o q) (fun x o q n => by rw [upd_ne n]; exact q) (fun _ _ => rfl) upd_same d.dropLast
        exact q v F _ R2 st2 rv
/-- len(xs), xs a name whatever holds it -/
def mLenN (i : Nat) : Mo D := fun ε => match ε[i]? with
  | some (.own ds) => some (.ok (.int ds.length) ε)
  | some (.io ds) => some (.ok (.int ds.length) ε)
  | some (.dat (.lst ds)) => some (.ok (.int ds.length) ε)
  | some (.dat (.rdl ds)) => some (.ok (.int ds.length) ε)
  | some (.dat (.tup ds)) => some (.ok (.int ds.length) ε)
  | some (.dat (.str x)) => if x.length ≤ 1000000 then some (.ok (.int x.length) ε) else none
  | _ => none
theorem rep_seqs {K : PySem.W.Frag} {F : Hp} {v : V} {ds : List D} : RepD K F v (.lst ds) → ∃ a xs, v = .ref a ∧ SqL K F a xs ∧ RepL K F xs ds := fun h => by
  cases h with
  | lst a b => exact ⟨_, _, rfl, .inl (.inl a), b⟩
theorem rep_lst {K : PySem.W.Frag} {F : Hp} {v : V} {ds : List D} : RepD K F v (.lst ds) → ∃ a xs, v = .ref a ∧ F a = some (.lst xs) ∧ RepL K F xs ds := fun h => by
  cases h with
  | lst a b => exact ⟨_, _, rfl, a, b⟩
theorem rep_rdl {K : PySem.W.Frag} {F : Hp} {v : V} {ds : List D} : RepD K F v (.rdl ds) → ∃ a xs, v = .ref a ∧ SqL K F a xs ∧ RepL K F xs ds := fun h => by
  cases h with
  | rdl a b => exact ⟨_, _, rfl, a, b⟩
theorem rep_tup {K : PySem.W.Frag} {F : Hp} {v : V} {ds : List D} : RepD K F v (.tup ds) → ∃ a xs, v = .ref a ∧ SqT K F a xs ∧ RepL K F xs ds := fun h => by
  cases h with
  | tup a b => exact ⟨_, _, rfl, a, b⟩
theorem line_big {n : Nat} (h : n ≤ 1000000) : n ≤ sizeLine := Nat.le_trans h (by decide)
theorem ev_lenN {i : Nat} (hp : PE X e (tCB (fun xs H Q => ∃ x n, xs = [x] ∧ LenV X.K x H n ∧ Q (.int n) H) (tCons (tVar i) tNil))) : EvD X C W e (mLenN i) := by
  refine ⟨_, hp, fun F H σ ε Q R q => ?_⟩
  unfold mLenN at q
  cases h2 : ε[i]? with
  | none => rw [h2] at q; exact q.elim
  | some e1 =>
    rw [h2] at q
    have en := R.ent i e1 h2
    cases e1 with
    | un => exact q.elim
    | xc => exact q.elim
    | od ob => exact q.elim
    | ib ob => exact q.elim
    | own ds =>
      obtain ⟨l, us, a, b, c, d, _⟩ := en
      refine ⟨.ref l, a, .ref l, us.length, rfl, .inl ⟨us, .inl (.inl b), rfl⟩, ?_⟩
      rw [d.length]
      exact q _ F H R Stp.refl (.int _)
    | io ds =>
      obtain ⟨l, us, a, b, c, d, _⟩ := en
      refine ⟨.ref l, a, .ref l, us.length, rfl, .inl ⟨us, .inl (.inl b), rfl⟩, ?_⟩
      rw [d.length]
      exact q _ F H R Stp.refl (.int _)
    | dat z =>
      obtain ⟨v, a, r⟩ := en
      cases z with
      | lst ds =>
        obtain ⟨p, xs, rfl, s, r2⟩ := rep_seqs r
        refine ⟨_, a, .ref p, xs.length, rfl, .inl ⟨xs, Same.seq R.fh s, rfl⟩, ?_⟩
        rw [r2.length]
        exact q _ F H R Stp.refl (.int _)
      | rdl ds =>
        obtain ⟨p, xs, rfl, s, r2⟩ := rep_rdl r
        refine ⟨_, a, .ref p, xs.length, rfl, .inl ⟨xs, Same.seq R.fh s, rfl⟩, ?_⟩
        rw [r2.length]
        exact q _ F H R Stp.refl (.int _)
      | tup ds =>
        obtain ⟨p, xs, rfl, s, r2⟩ := rep_tup r
        refine ⟨_, a, .ref p, xs.length, rfl, .inr ⟨xs, seqT R.fh s, rfl⟩, ?_⟩
        rw [r2.length]
        exact q _ F H R Stp.refl (.int _)
      | str x =>
        have := rep_str r
        subst this
        by_cases hx : x.length ≤ 1000000
        · simp only [hx, if_true] at q
          exact ⟨_, a, .str x, x.length, rfl, ⟨line_big hx, rfl⟩, q _ F H R Stp.refl (.int _)⟩
        · simp only [hx, if_false] at q
          exact q.elim
      | non => exact q.elim
      | bl k => exact q.elim
      | int k => exact q.elim
      | rf k => exact q.elim
      | dct => exact q.elim
      | fn => exact q.elim
      | dk => exact q.elim
      | dt => exact q.elim
      | ob => exact q.elim
def gLen : D → Option D
  | .lst ds => some (.int ds.length)
  | .rdl ds => some (.int ds.length)
  | .tup ds => some (.int ds.length)
  | .str x => if x.length ≤ 1000000 then some (.int x.length) else none
  | _ => none
def gOne (h : D → Option D) : List D → Option D
  | [d] => h d
  | _ => none
def gTwo (h : D → D → Option D) : List D → Option D
  | [d, e] => h d e
  | _ => none
theorem vc_len {K : PySem.W.Frag} : VCall K (fun xs H Q => ∃ x n, xs = [x] ∧ LenV K x H n ∧ Q (.int n) H) (gOne gLen) := by
  intro F H xs ds c Q s r hg q
  unfold gOne at hg
  split at hg
  · rename_i d
    cases r with
    | cons r1 r2 =>
      cases r2
      unfold gLen at hg
      split at hg
      · cases hg
        obtain ⟨p, xs, rfl, s2, r2⟩ := rep_seqs r1
        refine ⟨.ref p, xs.length, rfl, .inl ⟨xs, Same.seq s s2, rfl⟩, ?_⟩
        rw [r2.length]
        exact q _ F H (Ste.refl s) (.int _)
      · cases hg
        obtain ⟨p, xs, rfl, s2, r2⟩ := rep_rdl r1
        refine ⟨.ref p, xs.length, rfl, .inl ⟨xs, Same.seq s s2, rfl⟩, ?_⟩
        rw [r2.length]
        exact q _ F H (Ste.refl s) (.int _)
      · cases hg
        obtain ⟨p, xs, rfl, s2, r2⟩ := rep_tup r1
        refine ⟨.ref p, xs.length, rfl, .inr ⟨xs, seqT s s2, rfl⟩, ?_⟩
        rw [r2.length]
        exact q _ F H (Ste.refl s) (.int _)
      · rename_i x
        split at hg
        · rename_i hx
          cases hg
          have := rep_str r1
          subst this
          exact ⟨_, x.length, rfl, ⟨line_big hx, rfl⟩, q _ F H (Ste.refl s) (.int _)⟩
        · cases hg
      · cases hg
  · cases hg
end
end DL

set_option Elab.async false
set_option linter.all false
set_option maxRecDepth 100000
namespace DL
open PySem PySem.Spec L2

/-! ### == of data -/
mutual
def toPy : D → Option PyData
  | .non => some .none
  | .bl b => some (.bool b)
  | .int i => some (.int i)
  | .str x => some (.str x)
  | .tup ds => (toPyL ds).map .tuple
  | .lst ds => (toPyL ds).map .list
  | .rdl ds => (toPyL ds).map .list
  | .rf _ => none
  | .dct => none
  | .fn _ => none
  | .dk _ _ => none
  | .dt _ _ => none
  | .ob _ _ _ => none
def toPyL : List D → Option (List PyData)
  | [] => some []
  | d :: r => (toPy d).bind fun p => (toPyL r).map fun q => p :: q
end
mutual
theorem dp_of {K : PySem.W.Frag} {F : Hp} : ∀ {v : V} {d : D} {p : PyData}, RepD K F v d → toPy d = some p → Dp K F v p
  | _, .non, _, h, e => by cases h; simp [toPy] at e; subst e; exact .non
  | _, .bl b, _, h, e => by cases h; simp [toPy] at e; subst e; exact .bl b
  | _, .int b, _, h, e => by cases h; simp [toPy] at e; subst e; exact .int b
  | _, .str b, _, h, e => by cases h; simp [toPy] at e; subst e; exact .str b
  | _, .tup ds, _, h, e => by
    cases h with
    | tup s r =>
      simp only [toPy, Option.map_eq_some_iff] at e
      obtain ⟨q, e1, rfl⟩ := e
      exact .tup s (dpL_of r e1)
  | _, .lst ds, _, h, e => by
    cases h with
    | lst s r =>
      simp only [toPy, Option.map_eq_some_iff] at e
      obtain ⟨q, e1, rfl⟩ := e
      exact .lst (.inl (.inl s)) (dpL_of r e1)
  | _, .rdl ds, _, h, e => by
    cases h with
    | rdl s r =>
      simp only [toPy, Option.map_eq_some_iff] at e
      obtain ⟨q, e1, rfl⟩ := e
      exact .lst s (dpL_of r e1)
  | _, .rf _, _, _, e => by simp [toPy] at e
  | _, .dct, _, _, e => by simp [toPy] at e
  | _, .fn _, _, _, e => by simp [toPy] at e
  | _, .dk _ _, _, _, e => by simp [toPy] at e
  | _, .dt _ _, _, _, e => by simp [toPy] at e
  | _, .ob _ _ _, _, _, e => by simp [toPy] at e
theorem dpL_of {K : PySem.W.Frag} {F : Hp} : ∀ {vs : List V} {ds : List D} {p : List PyData}, RepL K F vs ds → toPyL ds = some p → DpAll K F vs p
  | _, [], _, h, e => by cases h; simp [toPyL] at e; subst e; exact .nil
  | _, d :: r, _, h, e => by
    cases h with
    | cons h1 h2 =>
      simp only [toPyL, Option.bind_eq_some_iff, Option.map_eq_some_iff] at e
      obtain ⟨q, e1, s, e2, rfl⟩ := e
      exact .cons (dp_of h1 e1) (dpL_of h2 e2)
end
def gEq (d e : D) : Option D := (toPy d).bind fun p => (toPy e).bind fun q => if SeqAt.shaped p = true ∧ SeqAt.shaped q = true then some (.bl (PyData.eqv p q)) else none
def gNe (d e : D) : Option D := (toPy d).bind fun p => (toPy e).bind fun q => if SeqAt.shaped p = true ∧ SeqAt.shaped q = true then some (.bl (!PyData.eqv p q)) else none
theorem vop_eqD {K : PySem.W.Frag} : VOp K (rEqD K) gEq := by
  intro F H x y a b c Q s ra rb hg q
  simp only [gEq, Option.bind_eq_some_iff] at hg
  obtain ⟨p, e1, r, e2, e3⟩ := hg
  split at e3
  · rename_i hs
    cases e3
    exact ⟨p, r, dp_of (ra.mono s) e1, dp_of (rb.mono s) e2, hs.1, hs.2, q _ F H (Ste.refl s) (.bl _)⟩
  · cases e3
theorem vop_neD {K : PySem.W.Frag} : VOp K (rNeD K) gNe := by
  intro F H x y a b c Q s ra rb hg q
  simp only [gNe, Option.bind_eq_some_iff] at hg
  obtain ⟨p, e1, r, e2, e3⟩ := hg
  split at e3
  · rename_i hs
    cases e3
    exact ⟨p, r, dp_of (ra.mono s) e1, dp_of (rb.mono s) e2, hs.1, hs.2, q _ F H (Ste.refl s) (.bl _)⟩
  · cases e3
/-- == of two scalars of one kind -/
def gEqS : D → D → Option D
  | .int i, .int j => some (.bl (decide (i = j)))
  | .str i, .str j => some (.bl (decide (i = j)))
  | .bl i, .bl j => some (.bl (decide (i = j)))
  | .non, .int _ => some (.bl false)
  | .int _, .non => some (.bl false)
  | _, _ => none
def gNeS : D → D → Option D
  | .int i, .int j => some (.bl (!decide (i = j)))
  | .str i, .str j => some (.bl (!decide (i = j)))
  | .bl i, .bl j => some (.bl (!decide (i = j)))
  | _, _ => none
theorem vop_eqS {K : PySem.W.Frag} : VOp K rEq gEqS := by
  intro F H x y a b c Q s ra rb hg q
  unfold gEqS at hg
  split at hg
  · rename_i i j
    cases hg
    rw [rep_int ra, rep_int rb]
    refine ⟨rfl, ?_⟩
    have e : decide (V.int i = V.int j) = decide (i = j) := decide_eq_decide.mpr ⟨fun h => V.int.inj h, fun h => by rw [h]⟩
    rw [e]
    exact q _ F H (Ste.refl s) (.bl _)
  · rename_i i j
    cases hg
    rw [rep_str ra, rep_str rb]
    refine ⟨rfl, ?_⟩
    have e : decide (V.str i = V.str j) = decide (i = j) := decide_eq_decide.mpr ⟨fun h => V.str.inj h, fun h => by rw [h]⟩
    rw [e]
    exact q _ F H (Ste.refl s) (.bl _)
  · rename_i i j
    cases hg
    rw [rep_bl ra, rep_bl rb]
    refine ⟨rfl, ?_⟩
    have e : decide (V.bl i = V.bl j) = decide (i = j) := decide_eq_decide.mpr ⟨fun h => V.bl.inj h, fun h => by rw [h]⟩
    rw [e]
    exact q _ F H (Ste.refl s) (.bl _)
  · rename_i j
    cases hg
    rw [rep_non ra, rep_int rb]
    refine ⟨rfl, ?_⟩
    rw [decide_eq_false (show ¬ (V.non = V.int j) from fun h => by cases h)]
    exact q _ F H (Ste.refl s) (.bl _)
  · rename_i j
    cases hg
    rw [rep_int ra, rep_non rb]
    refine ⟨rfl, ?_⟩
    rw [decide_eq_false (show ¬ (V.int j = V.non) from fun h => by cases h)]
    exact q _ F H (Ste.refl s) (.bl _)
  · cases hg
theorem vop_neS {K : PySem.W.Frag} : VOp K rNe gNeS := by
  intro F H x y a b c Q s ra rb hg q
  unfold gNeS at hg
  split at hg
  · rename_i i j
    cases hg
    rw [rep_int ra, rep_int rb]
    refine ⟨rfl, ?_⟩
    have e : decide (V.int i = V.int j) = decide (i = j) := decide_eq_decide.mpr ⟨fun h => V.int.inj h, fun h => by rw [h]⟩
    rw [e]
    exact q _ F H (Ste.refl s) (.bl _)
  · rename_i i j
    cases hg
    rw [rep_str ra, rep_str rb]
    refine ⟨rfl, ?_⟩
    have e : decide (V.str i = V.str j) = decide (i = j) := decide_eq_decide.mpr ⟨fun h => V.str.inj h, fun h => by rw [h]⟩
    rw [e]
    exact q _ F H (Ste.refl s) (.bl _)
  · rename_i i j
    cases hg
    rw [rep_bl ra, rep_bl rb]
    refine ⟨rfl, ?_⟩
    have e : decide (V.bl i = V.bl j) = decide (i = j) := decide_eq_decide.mpr ⟨fun h => V.bl.inj h, fun h => by rw [h]⟩
    rw [e]
    exact q _ F H (Ste.refl s) (.bl _)
  · cases hg
/-- is None -/
def gIsN (neg : Bool) : D → D → Option D
  | .rf _, _ => none
  | .non, .non => some (.bl (!neg))
  | _, .non => some (.bl neg)
  | _, _ => none
theorem isn_val {K : PySem.W.Frag} {F : Hp} {v : V} {d : D} (h : RepD K F v d) (h1 : ∀ x, d ≠ .rf x) (h2 : d ≠ .non) : v ≠ .non := by
  cases h with
  | non => exact absurd rfl h2
  | rf v => exact absurd rfl (h1 v)
  | bl b => exact fun z => by cases z
  | int b => exact fun z => by cases z
  | str b => exact fun z => by cases z
  | tup a b => exact fun z => by cases z
  | lst a b => exact fun z => by cases z
  | rdl a b => exact fun z => by cases z
  | dct a => exact fun z => by cases z
  | fn a => exact fun z => by cases z
  | dk a b c => exact fun z => by cases z
  | dt a b c => exact fun z => by cases z
  | ob n a b c => exact fun z => by cases z
theorem vop_isN {K : PySem.W.Frag} : VOp K (fun x y H Q => y = .non ∧ Q (.bl (decide (x = .non))) H) (gIsN false) := by
  intro F H x y a b c Q s ra rb hg q
  unfold gIsN at hg
  split at hg
  · cases hg
  · cases hg
    refine ⟨rep_non rb, ?_⟩
    rw [rep_non ra]
    exact q _ F H (Ste.refl s) (.bl _)
  · rename_i n1 n2
    cases hg
    refine ⟨rep_non rb, ?_⟩
    rw [decide_eq_false (isn_val ra (fun x z => n1 x z) (fun z => n2 z))]
    exact q _ F H (Ste.refl s) (.bl _)
  · cases hg
theorem vop_notN {K : PySem.W.Frag} : VOp K (fun x y H Q => y = .non ∧ Q (.bl (!decide (x = .non))) H) (gIsN true) := by
  intro F H x y a b c Q s ra rb hg q
  unfold gIsN at hg
  split at hg
  · cases hg
  · cases hg
    refine ⟨rep_non rb, ?_⟩
    rw [rep_non ra]
    exact q _ F H (Ste.refl s) (.bl _)
  · rename_i n1 n2
    cases hg
    refine ⟨rep_non rb, ?_⟩
    rw [decide_eq_false (isn_val ra (fun x z => n1 x z) (fun z => n2 z))]
    exact q _ F H (Ste.refl s) (.bl _)
  · cases hg
/-! ### in -/
def flatToV : D → Option V
  | .non => some .non
  | .bl b => some (.bl b)
  | .int i => some (.int i)
  | .str x => some (.str x)
  | _ => none
def flatToVs : List D → Option (List V)
  | [] => some []
  | d :: r => (flatToV d).bind fun p => (flatToVs r).map fun q => p :: q
theorem flat_eq {K : PySem.W.Frag} {F : Hp} {v w : V} {d : D} (h : RepD K F v d) (e : flatToV d = some w) : v = w ∧ flatV w = true := by
  cases h <;> simp [flatToV] at e <;> subst e <;> exact ⟨rfl, rfl⟩
theorem flats_eq {K : PySem.W.Frag} {F : Hp} : ∀ {vs ws : List V} {ds : List D}, RepL K F vs ds → flatToVs ds = some ws → vs = ws ∧ ws.all flatV = true
  | _, _, [], h, e => by cases h; simp [flatToVs] at e; subst e; exact ⟨rfl, rfl⟩
  | _, _, d :: r, h, e => by
    cases h with
    | cons h1 h2 =>
      simp only [flatToVs, Option.bind_eq_some_iff, Option.map_eq_some_iff] at e
      obtain ⟨q, e1, s, e2, rfl⟩ := e
      obtain ⟨a, b⟩ := flat_eq h1 e1
      obtain ⟨c, d⟩ := flats_eq h2 e2
      exact ⟨by rw [a, c], by simp [b, d]⟩
def seqOf : D → Option (List D)
  | .tup ds => some ds
  | .lst ds => some ds
  | .rdl ds => some ds
  | _ => none
theorem rep_seq {K : PySem.W.Frag} {F : Hp} {v : V} {d : D} {ds : List D} (h : RepD K F v d) (e : seqOf d = some ds) : ∃ a xs, v = .ref a ∧ (SqL K F a xs ∨ SqT K F a xs) ∧ RepL K F xs ds := by
  cases h with
  | tup a b => simp [seqOf] at e; subst e; exact ⟨_, _, rfl, .inr a, b⟩
  | lst a b => simp [seqOf] at e; subst e; exact ⟨_, _, rfl, .inl (.inl (.inl a)), b⟩
  | rdl a b => simp [seqOf] at e; subst e; exact ⟨_, _, rfl, .inl a, b⟩
  | _ => simp [seqOf] at e
theorem seq_up {K : PySem.W.Frag} {F H : Hp} {a : Addr} {xs : List V} (s : Same F H) (h : SqL K F a xs ∨ SqT K F a xs) : SqL K H a xs ∨ SqT K H a xs := by
  rcases h with h | h
  · exact .inl (Same.seq s h)
  · exact .inr (seqT s h)
def gIn (neg : Bool) (d e : D) : Option D := (flatToV d).bind fun x => (seqOf e).bind fun es => (flatToVs es).map fun ws => .bl (if neg then !inV x ws else inV x ws)
theorem vop_in {K : PySem.W.Frag} (neg : Bool) : VOp K (rIn K neg) (gIn neg) := by
  intro F H x y a b c Q s ra rb hg q
  simp only [gIn, Option.bind_eq_some_iff, Option.map_eq_some_iff] at hg
  obtain ⟨v, e1, es, e2, ws, e3, rfl⟩ := hg
  obtain ⟨p, xs, rfl, h, r⟩ := rep_seq rb e2
  obtain ⟨h1, h2⟩ := flat_eq ra e1
  obtain ⟨h3, h4⟩ := flats_eq r e3
  subst h1 h3
  exact ⟨p, xs, rfl, seq_up s h, h2, h4, q _ F H (Ste.refl s) (.bl _)⟩
/-! ### subscripts, slices -/
def gIx : D → D → Option D
  | .str z, .int i => if z.length ≤ 1000000 then (atI z.cps.toList i).map fun c => .str ⟨#[c]⟩ else none
  | d, .int i => (seqOf d).bind fun ds => atI ds i
  | _, _ => none
theorem atI_rep {K : PySem.W.Frag} {F : Hp} {xs : List V} {ds : List D} {i : Int} {d : D} (r : RepL K F xs ds) (h : atI ds i = some d) : ∃ v, atI xs i = some v ∧ RepD K F v d := by
  unfold atI at h ⊢
  rw [r.length]
  cases e : ixN ds.length i with
  | none => rw [e] at h; cases h
  | some j =>
    rw [e] at h
    exact r.get h
theorem vop_ix {K : PySem.W.Frag} : VOp K (rIx K) gIx := by
  intro F H x y a b c Q s ra rb hg q
  unfold gIx at hg
  split at hg
  · rename_i z i
    split at hg
    · rename_i hz
      simp only [Option.map_eq_some_iff] at hg
      obtain ⟨cp, e1, rfl⟩ := hg
      exact .inr (.inr ⟨z, i, cp, rep_str ra, rep_int rb, line_big hz, e1, q _ F H (Ste.refl s) (.str _)⟩)
    · cases hg
  · rename_i i hn
    simp only [Option.bind_eq_some_iff] at hg
    obtain ⟨ds, e1, e2⟩ := hg
    obtain ⟨p, xs, rfl, h, r⟩ := rep_seq ra e1
    obtain ⟨v, h1, h2⟩ := atI_rep r e2
    rcases seq_up s h with h | h
    · exact .inl ⟨p, xs, i, v, rfl, rep_int rb, h, h1, q _ F H (Ste.refl s) h2⟩
    · exact .inr (.inl ⟨p, xs, i, v, rfl, rep_int rb, h, h1, q _ F H (Ste.refl s) h2⟩)
  · cases hg
section
variable {X : Cx} {C : Ct} {W : WX} {a b c e : Expr} {pos : Pos} {f g h : Mo D}
theorem ev_eq (hu : X.A.units + 64 < cLine) (ha : EvD X C W a f) (hb : EvD X C W b g) : EvD X C W (.Compare a [.Eq] [b] pos) (mOp gEq f g) := ev_cmp (op_eqD hu) (nomark _) vop_eqD ha hb
theorem ev_ne (hu : X.A.units + 64 < cLine) (ha : EvD X C W a f) (hb : EvD X C W b g) : EvD X C W (.Compare a [.NotEq] [b] pos) (mOp gNe f g) := ev_cmp (op_neD hu) (nomark _) vop_neD ha hb
theorem ev_eqS (ha : EvD X C W a f) (hb : EvD X C W b g) : EvD X C W (.Compare a [.Eq] [b] pos) (mOp gEqS f g) := ev_cmp op_eq (nomark _) vop_eqS ha hb
theorem ev_neS (ha : EvD X C W a f) (hb : EvD X C W b g) : EvD X C W (.Compare a [.NotEq] [b] pos) (mOp gNeS f g) := ev_cmp op_ne (nomark _) vop_neS ha hb
theorem ev_isN (ha : EvD X C W a f) (hb : EvD X C W b g) : EvD X C W (.Compare a [.Is] [b] pos) (mOp (gIsN false) f g) := ev_cmp op_isN (nomark _) vop_isN ha hb
theorem ev_notN (ha : EvD X C W a f) (hb : EvD X C W b g) : EvD X C W (.Compare a [.IsNot] [b] pos) (mOp (gIsN true) f g) := ev_cmp op_notN (nomark _) vop_notN ha hb
theorem ev_in (hm : behindInMarks .In b = false) (ha : EvD X C W a f) (hb : EvD X C W b g) : EvD X C W (.Compare a [.In] [b] pos) (mOp (gIn false) f g) := ev_cmp op_in_seq hm (vop_in false) ha hb
theorem ev_notIn (hm : behindInMarks .NotIn b = false) (ha : EvD X C W a f) (hb : EvD X C W b g) : EvD X C W (.Compare a [.NotIn] [b] pos) (mOp (gIn true) f g) := ev_cmp op_notIn_seq hm (vop_in true) ha hb
theorem ev_item (hm : PlainIx b) (ha : EvD X C W a f) (hb : EvD X C W b g) : EvD X C W (.Subscript a b pos) (mOp gIx f g) := ev_ix ix_seq hm vop_ix ha hb fun _ _ p1 p2 => pe_ix ix_seq p1 p2 hm
def VO (K : PySem.W.Frag) (C : Ct) (W : WX) (to : TO) (f : Mo (Option Int)) : Prop := ∀ F H σ ε Q, Rep K C F H σ ε → Good (f ε) (fun o ε' => ∀ F' H', Rep K C F' H' σ ε' → Stp σ ε ε' F H F' H' → Q o H') (ExP K C W F H σ ε) → to σ H Q
def EoD (X : Cx) (C : Ct) (W : WX) (e : Option Expr) (f : Mo (Option Int)) : Prop := ∃ to, PO X e to ∧ VO X.K C W to f
def asI : D → Option Int
  | .int i => some i
  | _ => none
theorem eo_none : EoD X C W none (pur none) := ⟨_, po_none, fun F H σ ε Q R q => q F H R Stp.refl⟩
theorem eo_some {e : Expr} (h : EvD X C W e f) : EoD X C W (some e) (bnd f fun d => lft ((asI d).map some)) := by
  obtain ⟨te, p1, s1⟩ := h
  refine ⟨_, po_some p1, fun F H σ ε Q R q => ?_⟩
  refine s1 F H σ ε _ R (q.bind.imp (fun d e q1 v F1 H1 R1 st1 r1 => ?_) fun x e z => z)
  cases d with
  | int i => exact ⟨i, rep_int r1, q1 F1 H1 R1 st1⟩
  | _ => exact q1.elim
def cutD (ds : List D) (lo hi : Option Int) : List D := (ds.drop (HT.sIx ds.length 0 lo)).take (HT.sIx ds.length ds.length hi - HT.sIx ds.length 0 lo)
theorem rep_cut {K : PySem.W.Frag} {F : Hp} {xs : List V} {ds : List D} (r : RepL K F xs ds) (lo hi : Option Int) : RepL K F (cutV xs lo hi) (cutD ds lo hi) := by
  unfold cutV cutD
  rw [r.length]
  exact (r.drop _).take _
def gSlL : D → Option Int → Option Int → Option D
  | .lst ds, lo, hi => some (.lst (cutD ds lo hi))
  | .rdl ds, lo, hi => some (.lst (cutD ds lo hi))
  | _, _, _ => none
def gSlT : D → Option Int → Option Int → Option D
  | .tup ds, lo, hi => some (.tup (cutD ds lo hi))
  | _, _, _ => none
def gSlS : D → Option Int → Option Int → Option D
  | .str z, lo, hi => if z.length ≤ 1000000 then some (.str (cutS z lo hi)) else none
  | _, _, _ => none
def VSl (K : PySem.W.Frag) (r : V → Option Int → Option Int → Hp → VK → Prop) (g : D → Option Int → Option Int → Option D) : Prop := ∀ F H x a lo hi c Q, Same F H → RepD K F x a → g a lo hi = some c → (∀ v F' H', Ste F H F' H' → RepD K F' v c → Q v H') → r x lo hi H Q
def mSl (g : D → Option Int → Option Int → Option D) (f : Mo D) (fl fh : Mo (Option Int)) : Mo D := bnd f fun d => bnd fl fun lo => bnd fh fun hi => lft (g d lo hi)
theorem ev_sl {r : V → Option Int → Option Int → Hp → VK → Prop} {g : D → Option Int → Option Int → Option D} {lo hi : Option Expr} {fl fh : Mo (Option Int)} {p2 : Pos} (hr : SlR X r) (hv : VSl X.K r g) (ha : EvD X C W a f) (hl : EoD X C W lo fl) (hh : EoD X C W hi fh) :
    EvD X C W (.Subscript a (.Slice lo hi none p2) pos) (mSl g f fl fh) := by
  obtain ⟨ta, p0, s0⟩ := ha
  obtain ⟨tl, p1, s1⟩ := hl
  obtain ⟨th, p2', s2⟩ := hh
  refine ⟨_, pe_slice hr p0 p1 p2', fun F H σ ε Q R q => ?_⟩
  refine s0 F H σ ε _ R (q.bind.imp (fun d e q1 v F1 H1 R1 st1 r1 => ?_) fun x e z => z)
  refine s1 F1 H1 σ e _ R1 (q1.bind.imp (fun l e2 q2 F2 H2 R2 st2 => ?_) fun x e z => z.imp st1)
  refine s2 F2 H2 σ e2 _ R2 (q2.bind.imp (fun u e3 q3 F3 H3 R3 st3 => ?_) fun x e z => z.imp (st1.trans st2))
  unfold lft at q3
  cases hg : g d l u with
  | none => rw [hg] at q3; exact q3.elim
  | some c =>
    rw [hg] at q3
    exact hv F3 H3 v d l u c Q R3.fh ((r1.mono st2.ff).mono st3.ff) hg fun w F4 H4 st4 r4 => q3 w F4 H4 (R3.step st4) (((st1.trans st2).trans st3).trans st4.stp) r4
theorem vsl_list {K : PySem.W.Frag} : VSl K (rSlL K) gSlL := by
  intro F H x a lo hi c Q s r hg q
  unfold gSlL at hg
  split at hg
  · cases hg
    obtain ⟨p, xs, rfl, h, r2⟩ := rep_lst r
    refine ⟨p, xs, rfl, .inl (.inl (s _ _ h)), fun l hl => ?_⟩
    have st := Ste.laid (o := .lst (cutV xs lo hi)) s hl
    exact q _ _ _ st (.lst upd_same ((rep_cut r2 lo hi).mono st.ff))
  · cases hg
    obtain ⟨p, xs, rfl, h, r2⟩ := rep_rdl r
    refine ⟨p, xs, rfl, Same.seq s h, fun l hl => ?_⟩
    have st := Ste.laid (o := .lst (cutV xs lo hi)) s hl
    exact q _ _ _ st (.lst upd_same ((rep_cut r2 lo hi).mono st.ff))
  · cases hg
theorem cut_whole {ds : List D} {lo hi : Option Int} (h : HT.sIx ds.length 0 lo = 0 ∧ HT.sIx ds.length ds.length hi = ds.length) : cutD ds lo hi = ds := by
  unfold cutD
  rw [h.1, h.2]
  simp
theorem vsl_tup {K : PySem.W.Frag} : VSl K (rSlA K) gSlT := by
  intro F H x a lo hi c Q s r hg q
  unfold gSlT at hg
  split at hg
  · cases hg
    obtain ⟨p, xs, rfl, h, r2⟩ := rep_tup r
    refine ⟨p, xs, rfl, seqT s h, fun hw => ?_, fun hw l hl => ?_⟩
    · rw [r2.length] at hw
      rw [cut_whole hw] at q
      exact q _ F H (Ste.refl s) (.tup h r2)
    · have st := Ste.laid (o := .tup (cutV xs lo hi)) s hl
      exact q _ _ _ st (.tup (.inl (.inl upd_same)) ((rep_cut r2 lo hi).mono st.ff))
  · cases hg
theorem vsl_str {K : PySem.W.Frag} : VSl K rSlS gSlS := by
  intro F H x a lo hi c Q s r hg q
  unfold gSlS at hg
  split at hg
  · split at hg
    · rename_i hz
      cases hg
      exact ⟨_, rep_str r, line_big hz, q _ F H (Ste.refl s) (.str _)⟩
    · cases hg
  · cases hg
end
/-! ### + of texts, lists, tuples -/
def gCatS : D → D → Option D
  | .str a, .str b => if a.length + b.length ≤ 1000000 then some (.str (a ++ b)) else none
  | _, _ => none
def gCatL : D → D → Option D
  | .lst a, .lst b => if a.length + b.length ≤ 1000000 then some (.lst (a ++ b)) else none
  | _, _ => none
def gCatT : D → D → Option D
  | .tup a, .tup b => if a.length + b.length ≤ 1000000 then some (.tup (a ++ b)) else none
  | _, _ => none
theorem vop_catS {K : PySem.W.Frag} : VOp K (fun x y H Q => ∃ i j, x = .str i ∧ y = .str j ∧ i.length + j.length ≤ sizeLine ∧ Q (.str (i ++ j)) H) gCatS := by
  intro F H x y a b c Q s ra rb hg q
  unfold gCatS at hg
  split at hg
  · split at hg
    · rename_i hz
      cases hg
      exact ⟨_, _, rep_str ra, rep_str rb, line_big hz, q _ F H (Ste.refl s) (.str _)⟩
    · cases hg
  · cases hg
theorem vop_catL {K : PySem.W.Frag} : VOp K rCat gCatL := by
  intro F H x y a b c Q s ra rb hg q
  unfold gCatL at hg
  split at hg
  · split at hg
    · rename_i hz
      cases hg
      obtain ⟨p, xs, rfl, h, r⟩ := rep_lst ra
      obtain ⟨p2, xs2, rfl, h2, r2⟩ := rep_lst rb
      refine ⟨p, p2, xs, xs2, rfl, rfl, s _ _ h, s _ _ h2, by rw [r.length, r2.length]; exact line_big hz, fun l hl => ?_⟩
      have st := Ste.laid (o := .lst (xs ++ xs2)) s hl
      exact q _ _ _ st (.lst upd_same ((r.append r2).mono st.ff))
    · cases hg
  · cases hg
theorem vop_catT {K : PySem.W.Frag} : VOp K (rCatA K) gCatT := by
  intro F H x y a b c Q s ra rb hg q
  unfold gCatT at hg
  split at hg
  · split at hg
    · rename_i hz
      cases hg
      obtain ⟨p, xs, rfl, h, r⟩ := rep_tup ra
      obtain ⟨p2, xs2, rfl, h2, r2⟩ := rep_tup rb
      refine ⟨p, p2, xs, xs2, rfl, rfl, seqT s h, seqT s h2, by rw [r.length, r2.length]; exact line_big hz, fun e => ?_, fun _ e => ?_, fun _ _ l hl => ?_⟩
      · subst e
        cases r
        exact q _ F H (Ste.refl s) (.tup h2 r2)
      · subst e
        cases r2
        rw [List.append_nil] at q
        exact q _ F H (Ste.refl s) (.tup h r)
      · have st := Ste.laid (o := .tup (xs ++ xs2)) s hl
        exact q _ _ _ st (.tup (.inl (.inl upd_same)) ((r.append r2).mono st.ff))
    · cases hg
  · cases hg
/-! ### built-ins -/
def gInt : D → Option D
  | .int i => some (.int i)
  | .bl b => some (.int (if b then 1 else 0))
  | _ => none
def gAbs : D → Option D
  | .int i => some (.int (if i < 0 then -i else i))
  | _ => none
def gMin2 := gI (fun _ _ => true) fun i j => .int (if j < i then j else i)
def gMax2 := gI (fun _ _ => true) fun i j => .int (if j > i then j else i)
def gStr : D → Option D
  | .int i => if i.natAbs.log2 < 1920 then some (.str (toString i)) else none
  | _ => none
def gTuple : D → Option D
  | .lst ds => some (.tup ds)
  | .rdl ds => some (.tup ds)
  | .tup ds => some (.tup ds)
  | _ => none
def gList : D → Option D
  | .lst ds => some (.lst ds)
  | .rdl ds => some (.lst ds)
  | .tup ds => some (.lst ds)
  | _ => none
theorem one_of {K : PySem.W.Frag} {F : Hp} {xs : List V} {ds : List D} {h : D → Option D} {c : D} (r : RepL K F xs ds) (hg : gOne h ds = some c) : ∃ x d, xs = [x] ∧ ds = [d] ∧ RepD K F x d ∧ h d = some c := by
  unfold gOne at hg
  split at hg
  · cases r with
    | cons r1 r2 => cases r2; exact ⟨_, _, rfl, rfl, r1, hg⟩
  · cases hg
theorem two_of {K : PySem.W.Frag} {F : Hp} {xs : List V} {ds : List D} {h : D → D → Option D} {c : D} (r : RepL K F xs ds) (hg : gTwo h ds = some c) : ∃ x y d e, xs = [x, y] ∧ ds = [d, e] ∧ RepD K F x d ∧ RepD K F y e ∧ h d e = some c := by
  unfold gTwo at hg
  split at hg
  · cases r with
    | cons r1 r2 => cases r2 with
      | cons r2 r3 => cases r3; exact ⟨_, _, _, _, rfl, rfl, r1, r2, hg⟩
  · cases hg
theorem gI_of {p : Int → Int → Bool} {h : Int → Int → D} {d e c : D} (hg : gI p h d e = some c) : ∃ i j, d = .int i ∧ e = .int j ∧ p i j = true ∧ c = h i j := by
  unfold gI at hg
  split at hg
  · split at hg
    · rename_i hp; cases hg; exact ⟨_, _, rfl, rfl, hp, rfl⟩
    · cases hg
  · cases hg
section
variable {K : PySem.W.Frag}
theorem vc_int : VCall K (fun xs H Q => (∃ i, xs = [.int i] ∧ Q (.int i) H) ∨ ∃ k, xs = [.bl k] ∧ Q (.int (if k then 1 else 0)) H) (gOne gInt) := by
  intro F H xs ds c Q s r hg q
  obtain ⟨x, d, rfl, rfl, rd, hd⟩ := one_of r hg
  unfold gInt at hd
  split at hd
  · cases hd; exact .inl ⟨_, by rw [rep_int rd], q _ F H (Ste.refl s) (.int _)⟩
  · cases hd; exact .inr ⟨_, by rw [rep_bl rd], q _ F H (Ste.refl s) (.int _)⟩
  · cases hd
theorem vc_abs : VCall K (fun xs H Q => ∃ i, xs = [.int i] ∧ Q (.int (if i < 0 then -i else i)) H) (gOne gAbs) := by
  intro F H xs ds c Q s r hg q
  obtain ⟨x, d, rfl, rfl, rd, hd⟩ := one_of r hg
  unfold gAbs at hd
  split at hd
  · cases hd; exact ⟨_, by rw [rep_int rd], q _ F H (Ste.refl s) (.int _)⟩
  · cases hd
theorem vc_min2 : VCall K (fun xs H Q => ∃ i j, xs = [.int i, .int j] ∧ Q (.int (if j < i then j else i)) H) (gTwo gMin2) := by
  intro F H xs ds c Q s r hg q
  obtain ⟨x, y, d, e, rfl, rfl, rd, re, hd⟩ := two_of r hg
  obtain ⟨i, j, rfl, rfl, _, rfl⟩ := gI_of hd
  exact ⟨i, j, by rw [rep_int rd, rep_int re], q _ F H (Ste.refl s) (.int _)⟩
theorem vc_max2 : VCall K (fun xs H Q => ∃ i j, xs = [.int i, .int j] ∧ Q (.int (if j > i then j else i)) H) (gTwo gMax2) := by
  intro F H xs ds c Q s r hg q
  obtain ⟨x, y, d, e, rfl, rfl, rd, re, hd⟩ := two_of r hg
  obtain ⟨i, j, rfl, rfl, _, rfl⟩ := gI_of hd
  exact ⟨i, j, by rw [rep_int rd, rep_int re], q _ F H (Ste.refl s) (.int _)⟩
theorem vc_str : VCall K (fun xs H Q => ∃ i, xs = [.int i] ∧ i.natAbs.log2 < 1920 ∧ Q (.str (toString i)) H) (gOne gStr) := by
  intro F H xs ds c Q s r hg q
  obtain ⟨x, d, rfl, rfl, rd, hd⟩ := one_of r hg
  unfold gStr at hd
  split at hd
  · split at hd
    · rename_i hz; cases hd; exact ⟨_, by rw [rep_int rd], hz, q _ F H (Ste.refl s) (.str _)⟩
    · cases hd
  · cases hd
theorem vc_tuple : VCall K (fun xs H Q => ∃ p ys, xs = [.ref p] ∧ ((SqL K H p ys ∧ ∀ l, H l = none → Q (.ref l) (upd H l (.tup ys))) ∨ (SqT K H p ys ∧ Q (.ref p) H))) (gOne gTuple) := by
  intro F H xs ds c Q s r hg q
  obtain ⟨x, d, rfl, rfl, rd, hd⟩ := one_of r hg
  unfold gTuple at hd
  split at hd
  · cases hd
    obtain ⟨p, xs, rfl, h, r⟩ := rep_seqs rd
    refine ⟨p, xs, rfl, .inl ⟨Same.seq s h, fun l hl => ?_⟩⟩
    have st := Ste.laid (o := .tup xs) s hl
    exact q _ _ _ st (.tup (.inl (.inl upd_same)) (r.mono st.ff))
  · cases hd
    obtain ⟨p, xs, rfl, h, r⟩ := rep_rdl rd
    refine ⟨p, xs, rfl, .inl ⟨Same.seq s h, fun l hl => ?_⟩⟩
    have st := Ste.laid (o := .tup xs) s hl
    exact q _ _ _ st (.tup (.inl (.inl upd_same)) (r.mono st.ff))
  · cases hd
    obtain ⟨p, xs, rfl, h, r⟩ := rep_tup rd
    exact ⟨p, xs, rfl, .inr ⟨seqT s h, q _ F H (Ste.refl s) rd⟩⟩
  · cases hd
theorem vc_list : VCall K (fun xs H Q => ∃ p ys, xs = [.ref p] ∧ (SqL K H p ys ∨ SqT K H p ys) ∧ ∀ l, H l = none → Q (.ref l) (upd H l (.lst ys))) (gOne gList) := by
  intro F H xs ds c Q s r hg q
  obtain ⟨x, d, rfl, rfl, rd, hd⟩ := one_of r hg
  obtain ⟨es, he, hc⟩ : ∃ es, seqOf d = some es ∧ c = .lst es := by
    unfold gList at hd
    split at hd <;> cases hd <;> exact ⟨_, rfl, rfl⟩
  subst hc
  obtain ⟨p, xs, rfl, h, r⟩ := rep_seq rd he
  refine ⟨p, xs, rfl, seq_up s h, fun l hl => ?_⟩
  have st := Ste.laid (o := .lst xs) s hl
  exact q _ _ _ st (.lst upd_same (r.mono st.ff))
/-! isinstance(x, T), T of the built-ins -/
def tyName : D → Option String
  | .non => some "NoneType" | .bl _ => some "bool" | .int _ => some "int" | .str _ => some "str" | .tup _ => some "tuple" | .lst _ => some "list" | .rdl _ => some "list" | .dct => some "dict" | .dk _ _ => some "dict" | .dt _ _ => some "dict" | .ob _ _ _ => none | .fn _ => none | .rf _ => none
theorem ty_of {F H : Hp} {v : V} {d : D} {n : String} (s : Same F H) (r : RepD K F v d) (e : tyName d = some n) : TyX K H v (.type n) := by
  cases r with
  | non => cases e; exact .base .non
  | bl b => cases e; exact .base (.bl b)
  | int b => cases e; exact .base (.int b)
  | str b => cases e; exact .base (.str b)
  | tup h _ =>
    cases e
    rcases seqT s h with (h | ⟨o, h⟩) | ⟨o, _, _, h, c, _⟩
    · exact .base (.tup h)
    · exact .fTuple h
    · exact .kTuple h c
  | lst h _ => cases e; exact .base (.lst (s _ _ h))
  | rdl h _ =>
    cases e
    rcases Same.seq s h with (h | ⟨o, h⟩) | ⟨o, _, _, h, c, _⟩
    · exact .base (.lst h)
    · exact .base (.frz h)
    · exact .kList h c
  | dct h => cases e; exact .base (.dK (s _ _ h))
  | fn h => cases e
  | dk h _ _ => cases e; exact .base (.dK (s _ _ h))
  | dt h _ _ => cases e; exact .base (.dT (s _ _ h))
  | ob n h _ _ => cases e
  | rf v => cases e
def gIsi : List D → Option D
  | [d, .rf (.ty n)] => (tyName d).bind fun t => (kitB t n).map .bl
  | _ => none
theorem vc_isi : VCall K (rIsi K) gIsi := by
  intro F H xs ds c Q s r hg q
  unfold gIsi at hg
  split at hg
  · simp only [Option.bind_eq_some_iff, Option.map_eq_some_iff] at hg
    obtain ⟨t, e1, b, e2, rfl⟩ := hg
    cases r with
    | cons r1 r2 => cases r2 with
      | cons r2 r3 =>
        cases r3
        cases r2
        exact ⟨_, _, _, _, b, rfl, .ty _, ty_of s r1 e1, kit_ty e2, q _ F H (Ste.refl s) (.bl b)⟩
  · cases hg
/-! sorted, max, min of lists of ints -/
def intsOf : List D → Option (List Int)
  | [] => some []
  | .int i :: r => (intsOf r).map fun q => i :: q
  | _ => none
theorem ints_eq : ∀ {ds : List D} {ns : List Int}, intsOf ds = some ns → ds = ns.map D.int
  | [], _, e => by simp [intsOf] at e; subst e; rfl
  | .int i :: r, _, e => by
    simp only [intsOf, Option.map_eq_some_iff] at e
    obtain ⟨q, e1, rfl⟩ := e
    rw [ints_eq e1]; rfl
  | .non :: r, _, e => by simp [intsOf] at e
  | .bl _ :: r, _, e => by simp [intsOf] at e
  | .str _ :: r, _, e => by simp [intsOf] at e
  | .tup _ :: r, _, e => by simp [intsOf] at e
  | .lst _ :: r, _, e => by simp [intsOf] at e
  | .rdl _ :: r, _, e => by simp [intsOf] at e
  | .rf _ :: r, _, e => by simp [intsOf] at e
  | .dct :: r, _, e => by simp [intsOf] at e
  | .fn _ :: r, _, e => by simp [intsOf] at e
  | .dk _ _ :: r, _, e => by simp [intsOf] at e
  | .dt _ _ :: r, _, e => by simp [intsOf] at e
  | .ob _ _ _ :: r, _, e => by simp [intsOf] at e
def listInts : D → Option (List Int)
  | .lst ds => intsOf ds
  | .rdl ds => intsOf ds
  | _ => none
theorem list_ints {F : Hp} {v : V} {d : D} {ns : List Int} (r : RepD K F v d) (e : listInts d = some ns) : ∃ a, v = .ref a ∧ SqL K F a (ns.map V.int) := by
  cases r with
  | lst h r => have := ints_eq e; subst this; rw [RepL.ints r] at h; exact ⟨_, rfl, .inl (.inl h)⟩
  | rdl h r => have := ints_eq e; subst this; rw [RepL.ints r] at h; exact ⟨_, rfl, h⟩
  | _ => cases e
def ins1 (x : Int) : List Int → List Int
  | [] => [x]
  | y :: r => if x ≤ y then x :: y :: r else y :: ins1 x r
def sortI : List Int → List Int
  | [] => []
  | x :: r => ins1 x (sortI r)
theorem ins1_perm (x : Int) : ∀ l, (ins1 x l).Perm (x :: l)
  | [] => .refl _
  | y :: r => by
    unfold ins1
    split
    · exact .refl _
    · exact ((ins1_perm x r).cons y).trans (.swap x y r)
theorem sortI_perm : ∀ l, (sortI l).Perm l
  | [] => .refl _
  | x :: r => (ins1_perm x (sortI r)).trans ((sortI_perm r).cons x)
theorem ins1_pw (x : Int) : ∀ l, l.Pairwise (· ≤ ·) → (ins1 x l).Pairwise (· ≤ ·)
  | [], _ => by simp [ins1]
  | y :: r, h => by
    have h1 := List.pairwise_cons.mp h
    unfold ins1
    split
    · rename_i hxy
      refine List.pairwise_cons.mpr ⟨fun z hz => ?_, h⟩
      rcases List.mem_cons.mp hz with e | e
      · rw [e]; exact hxy
      · exact Int.le_trans hxy (h1.1 z e)
    · rename_i hxy
      refine List.pairwise_cons.mpr ⟨fun z hz => ?_, ins1_pw x r h1.2⟩
      rcases List.mem_cons.mp ((ins1_perm x r).mem_iff.mp hz) with e | e
      · rw [e]; omega
      · exact h1.1 z e
theorem sortI_pw : ∀ l, (sortI l).Pairwise (· ≤ ·)
  | [] => .nil
  | x :: r => ins1_pw x _ (sortI_pw r)
def gSorted (d : D) : Option D := (listInts d).map fun ns => .lst ((sortI ns).map D.int)
theorem vc_sorted : VCall K (fun vs H Q => ∃ (a : Addr) (ns : List Int), vs = [V.ref a] ∧ SqL K H a (ns.map V.int) ∧ ∀ (ns' : List Int) (p : Addr), ns'.Perm ns → ns'.Pairwise (· ≤ ·) → H p = none → Q (.ref p) (upd H p (.lst (ns'.map V.int)))) (gOne gSorted) := by
  intro F H xs ds c Q s r hg q
  obtain ⟨x, d, rfl, rfl, rd, hd⟩ := one_of r hg
  simp only [gSorted, Option.map_eq_some_iff] at hd
  obtain ⟨ns, e1, rfl⟩ := hd
  obtain ⟨a, rfl, h⟩ := list_ints rd e1
  refine ⟨a, ns, rfl, Same.seq s h, fun ns' p h1 h2 h3 => ?_⟩
  have e : ns' = sortI ns := PySem.W.ksm_same (h1.trans (sortI_perm ns).symm) h2 (sortI_pw ns)
  subst e
  have st := Ste.laid (o := .lst ((sortI ns).map V.int)) s h3
  exact q _ _ _ st (.lst upd_same (RepL.of_ints _))
def maxI : List Int → Int
  | [] => 0
  | [x] => x
  | x :: r => if maxI r > x then maxI r else x
def minI : List Int → Int
  | [] => 0
  | [x] => x
  | x :: r => if minI r < x then minI r else x
theorem maxI_spec : ∀ l : List Int, l ≠ [] → maxI l ∈ l ∧ ∀ y ∈ l, y ≤ maxI l
  | [], h => absurd rfl h
  | [x], _ => by simp [maxI]
  | x :: y :: r, _ => by
    have ih := maxI_spec (y :: r) (by simp)
    have e : maxI (x :: y :: r) = if maxI (y :: r) > x then maxI (y :: r) else x := rfl
    rw [e]
    split
    · rename_i h
      exact ⟨List.mem_cons_of_mem _ ih.1, fun z hz => by
        rcases List.mem_cons.mp hz with q | q
        · omega
        · exact ih.2 z q⟩
    · rename_i h
      exact ⟨List.mem_cons_self, fun z hz => by
        rcases List.mem_cons.mp hz with q | q
        · omega
        · have := ih.2 z q; omega⟩
theorem minI_spec : ∀ l : List Int, l ≠ [] → minI l ∈ l ∧ ∀ y ∈ l, minI l ≤ y
  | [], h => absurd rfl h
  | [x], _ => by simp [minI]
  | x :: y :: r, _ => by
    have ih := minI_spec (y :: r) (by simp)
    have e : minI (x :: y :: r) = if minI (y :: r) < x then minI (y :: r) else x := rfl
    rw [e]
    split
    · rename_i h
      exact ⟨List.mem_cons_of_mem _ ih.1, fun z hz => by
        rcases List.mem_cons.mp hz with q | q
        · omega
        · exact ih.2 z q⟩
    · rename_i h
      exact ⟨List.mem_cons_self, fun z hz => by
        rcases List.mem_cons.mp hz with q | q
        · omega
        · have := ih.2 z q; omega⟩
def gMaxL (d : D) : Option D := (listInts d).bind fun ns => if 0 < ns.length then some (.int (maxI ns)) else none
def gMinL (d : D) : Option D := (listInts d).bind fun ns => if 0 < ns.length then some (.int (minI ns)) else none
theorem vc_maxL : VCall K (rMax K) (gOne gMaxL) := by
  intro F H xs ds c Q s r hg q
  obtain ⟨x, d, rfl, rfl, rd, hd⟩ := one_of r hg
  simp only [gMaxL, Option.bind_eq_some_iff] at hd
  obtain ⟨ns, e1, e2⟩ := hd
  split at e2
  · rename_i h0
    cases e2
    obtain ⟨a, rfl, h⟩ := list_ints rd e1
    refine ⟨a, ns, rfl, Same.seq s h, h0, fun m h1 h2 => ?_⟩
    have sp := maxI_spec ns (by intro z; rw [z] at h0; simp at h0)
    have e : m = maxI ns := Int.le_antisymm (sp.2 m h1) (h2 _ sp.1)
    subst e
    exact q _ F H (Ste.refl s) (.int _)
  · cases e2
theorem vc_minL : VCall K (rMin K) (gOne gMinL) := by
  intro F H xs ds c Q s r hg q
  obtain ⟨x, d, rfl, rfl, rd, hd⟩ := one_of r hg
  simp only [gMinL, Option.bind_eq_some_iff] at hd
  obtain ⟨ns, e1, e2⟩ := hd
  split at e2
  · rename_i h0
    cases e2
    obtain ⟨a, rfl, h⟩ := list_ints rd e1
    refine ⟨a, ns, rfl, Same.seq s h, h0, fun m h1 h2 => ?_⟩
    have sp := minI_spec ns (by intro z; rw [z] at h0; simp at h0)
    have e : m = minI ns := Int.le_antisymm (h2 _ sp.1) (sp.2 m h1)
    subst e
    exact q _ F H (Ste.refl s) (.int _)
  · cases e2
end
end DL

set_option Elab.async false
set_option linter.all false
set_option maxRecDepth 100000
namespace DL
open PySem PySem.Spec L2

/-! ### targets -/
def setL (ε : List Ent) : List Nat → List D → List Ent
  | i :: is, d :: ds => setL (ε.set i (.dat d)) is ds
  | _, _ => ε
def setS (σ : St) : List Nat → List V → St
  | i :: is, v :: vs => setS (σ.set i (some v)) is vs
  | _, _ => σ
theorem Rep.setL {K : PySem.W.Frag} {C : Ct} {F H : Hp} : ∀ {is : List Nat} {vs : List V} {ds : List D} {σ : St} {ε : List Ent}, Rep K C F H σ ε → RepL K F vs ds → Rep K C F H (setS σ is vs) (setL ε is ds)
  | [], _, _, σ, ε, R, _ => by unfold DL.setL setS; exact R
  | i :: is, _, _, σ, ε, R, .nil => by unfold DL.setL setS; exact R
  | i :: is, v :: vs, d :: ds, σ, ε, R, .cons h r => by
    show Rep K C F H (setS (σ.set i (some v)) is vs) (DL.setL (ε.set i (.dat d)) is ds)
    exact Rep.setL (R.set i h) r
/-- a target: the slots, the parts of what is assigned -/
structure Tg where
  is : List Nat
  parts : D → Option (List D)
def SdG (K : PySem.W.Frag) (g : TG) (t : Tg) : Prop := ∀ (F H : Hp) (σ : St) (v : V) (d : D) (ds : List D) (Q : St → Hp → Prop), Same F H → RepD K F v d → t.parts d = some ds → (∀ vs, RepL K F vs ds → Q (setS σ t.is vs) H) → g v σ H Q
def gdName (i : Nat) : Tg := ⟨[i], fun d => some [d]⟩
theorem sg_name {K : PySem.W.Frag} {i : Nat} : SdG K (gName i) (gdName i) := fun F H σ v d ds Q s r e q => by
  cases e
  exact q [v] (.cons r .nil)
def setN (σ : St) : List Nat → List V → Option St
  | i :: is, v :: vs => setN (σ.set i (some v)) is vs
  | [], [] => some σ
  | _, _ => none
/-- names in a tuple -/
def gNames : List Nat → TGs
  | [] => gNil
  | i :: is => gCons (gName i) (gNames is)
theorem gNames_run : ∀ {is : List Nat} {vs : List V} {σ : St} {H : Hp} {Q : St → Hp → Prop}, vs.length = is.length → Q (setS σ is vs) H → gNames is vs σ H Q
  | [], [], σ, H, Q, _, h => ⟨rfl, h⟩
  | i :: is, v :: vs, σ, H, Q, hl, h => ⟨v, vs, rfl, gNames_run (by simpa using hl) h⟩
  | [], _ :: _, _, _, _, hl, _ => by simp at hl
  | _ :: _, [], _, _, _, hl, _ => by simp at hl
def gdTup (is : List Nat) : Tg := ⟨is, fun d => match d with
  | .tup ds => if ds.length = is.length then some ds else none
  | _ => none⟩
theorem sg_tup {K : PySem.W.Frag} {is : List Nat} {n : Nat} (hn : n = is.length) : SdG K (gTup K n (gNames is)) (gdTup is) := fun F H σ v d ds Q s r e q => by
  unfold gdTup at e
  dsimp only at e
  split at e
  · split at e
    · rename_i hl
      cases e
      obtain ⟨a, xs, rfl, h, r2⟩ := rep_tup r
      exact ⟨a, xs, rfl, seqT s h, by rw [r2.length, hl, hn], gNames_run (by rw [r2.length]; exact hl) (q xs r2)⟩
    · cases e
  · cases e

/-! ### what is walked -/
structure ItOk (K : PySem.W.Frag) (F : Hp) (J : It) (ds : List D) : Prop where
  go : ∀ F' H' i, Same F F' → Same F' H' → i < ds.length → J.go i H'
  yl : ∀ F' H' i x H2, Same F F' → Same F' H' → i < ds.length → J.yld i H' x H2 → ∃ d F2, ds[i]? = some d ∧ Ste F' H' F2 H2 ∧ RepD K F2 x d
  st : ∀ F' H' i, Same F F' → Same F' H' → ds.length ≤ i → J.stop i H'
def SdI (K : PySem.W.Frag) (C : Ct) (W : WX) (wi : TI) (f : Mo (List D)) : Prop := ∀ F H σ ε R, Rep K C F H σ ε →
  Good (f ε) (fun ds ε' => ∀ J F' H', Rep K C F' H' σ ε' → Stp σ ε ε' F H F' H' → ItOk K F' J ds → R J H') (ExP K C W F H σ ε) → wi σ H R
def EiD (X : Cx) (C : Ct) (W : WX) (tg e : Expr) (f : Mo (List D)) : Prop := ∃ wi, PI X tg e wi ∧ SdI X.K C W wi f
theorem it_list {K : PySem.W.Frag} {F : Hp} {a : Addr} {xs : List V} {ds : List D} (h : SqL K F a xs) (r : RepL K F xs ds) : ItOk K F (Itl K a) ds where
  go := fun F' H' i s1 s2 hi => by
    have hx : i < xs.length := by rw [r.length]; exact hi
    exact ⟨xs, xs[i], Same.seq (s1.trans s2) h, List.getElem?_eq_getElem hx⟩
  yl := fun F' H' i x H2 s1 s2 hi ⟨e, y⟩ => by
    subst e
    have hx := y xs (Same.seq (s1.trans s2) h)
    obtain ⟨d, h1, h2⟩ := r.getV hx
    exact ⟨d, F', h1, Ste.refl s2, h2.mono s1⟩
  st := fun F' H' i s1 s2 hi => ⟨xs, Same.seq (s1.trans s2) h, by rw [r.length]; exact hi⟩
theorem it_tup {K : PySem.W.Frag} {F : Hp} {a : Addr} {xs : List V} {ds : List D} (h : SqT K F a xs) (r : RepL K F xs ds) : ItOk K F (Itt K a) ds where
  go := fun F' H' i s1 s2 hi => by
    have hx : i < xs.length := by rw [r.length]; exact hi
    exact ⟨xs, xs[i], seqT (s1.trans s2) h, List.getElem?_eq_getElem hx⟩
  yl := fun F' H' i x H2 s1 s2 hi ⟨e, y⟩ => by
    subst e
    have hx := y xs (seqT (s1.trans s2) h)
    obtain ⟨d, h1, h2⟩ := r.getV hx
    exact ⟨d, F', h1, Ste.refl s2, h2.mono s1⟩
  st := fun F' H' i s1 s2 hi => ⟨xs, seqT (s1.trans s2) h, by rw [r.length]; exact hi⟩
/-- the ints from lo on -/
def rangeD (lo : Int) (n : Nat) : List D := (List.range n).map fun (k : Nat) => D.int (lo + (k : Int))
theorem it_range {K : PySem.W.Frag} {F : Hp} {lo : Int} {n : Nat} : ItOk K F (Itr lo n) (rangeD lo n) where
  go := fun F' H' i _ _ hi => by
    unfold rangeD at hi
    rw [List.length_map, List.length_range] at hi
    exact hi
  yl := fun F' H' i x H2 _ s2 hi ⟨e, y⟩ => by
    unfold rangeD at hi ⊢
    rw [List.length_map, List.length_range] at hi
    subst e y
    exact ⟨.int (lo + (i : Int)), F', by rw [List.getElem?_map, List.getElem?_range hi]; rfl, Ste.refl s2, .int _⟩
  st := fun F' H' i _ _ hi => by
    unfold rangeD at hi
    rw [List.length_map, List.length_range] at hi
    exact hi
section
variable {X : Cx} {C : Ct} {W : WX} {a b c e tg : Expr} {pos : Pos} {f g h : Mo D}
def lstOf : D → Option (List D)
  | .lst ds => some ds
  | .rdl ds => some ds
  | _ => none
def tupOf : D → Option (List D)
  | .tup ds => some ds
  | _ => none
theorem ei_list (he : EvD X C W e f) : EiD X C W tg e (bnd f fun d => lft (lstOf d)) := by
  obtain ⟨te, p1, s1⟩ := he
  refine ⟨_, pi_list p1, fun F H σ ε R R0 q => ?_⟩
  refine s1 F H σ ε _ R0 (q.bind.imp (fun d e q1 v F1 H1 R1 st1 r1 => ?_) fun x e z => z)
  cases d with
  | lst ds =>
    obtain ⟨a, xs, rfl, h, r⟩ := rep_seqs r1
    exact ⟨a, rfl, ⟨xs, Same.seq R1.fh h⟩, q1 _ F1 H1 R1 st1 (it_list h r)⟩
  | rdl ds =>
    obtain ⟨a, xs, rfl, h, r⟩ := rep_rdl r1
    exact ⟨a, rfl, ⟨xs, Same.seq R1.fh h⟩, q1 _ F1 H1 R1 st1 (it_list h r)⟩
  | _ => exact q1.elim
theorem ei_tup (he : EvD X C W e f) : EiD X C W tg e (bnd f fun d => lft (tupOf d)) := by
  obtain ⟨te, p1, s1⟩ := he
  refine ⟨_, pi_tup p1, fun F H σ ε R R0 q => ?_⟩
  refine s1 F H σ ε _ R0 (q.bind.imp (fun d e q1 v F1 H1 R1 st1 r1 => ?_) fun x e z => z)
  cases d with
  | tup ds =>
    obtain ⟨a, xs, rfl, h, r⟩ := rep_tup r1
    exact ⟨a, rfl, ⟨xs, seqT R1.fh h⟩, q1 _ F1 H1 R1 st1 (it_tup h r)⟩
  | _ => exact q1.elim
def inR (j : Int) : Bool := decide (-(2 ^ 62) ≤ j ∧ j < 2 ^ 62)
theorem inR_of {j : Int} (h : inR j = true) : -(2 ^ 62) ≤ j ∧ j < 2 ^ 62 := of_decide_eq_true h
theorem inR_mk {j : Int} (h1 : -(2 ^ 62) ≤ j) (h2 : j < 2 ^ 62) : inR j = true := decide_eq_true ⟨h1, h2⟩
def rng1 : List D → Option (List D)
  | [.int j] => if inR j = true then some (rangeD 0 j.toNat) else none
  | _ => none
def rng2 : List D → Option (List D)
  | [.int i, .int j] => if inR i = true ∧ inR j = true then some (rangeD i (j - i).toNat) else none
  | _ => none
theorem ei_range1 {fs : Mo (List D)} (ha : EaD X C W [a] fs) (hp : ∀ ta, PA X [a] ta → PI X tg e (iRng1 ta)) : EiD X C W tg e (bnd fs fun ds => lft (rng1 ds)) := by
  obtain ⟨ta, p1, s1⟩ := ha
  refine ⟨_, hp _ p1, fun F H σ ε R R0 q => ?_⟩
  refine s1 F H σ ε _ R0 (q.bind.imp (fun ds e q1 vs F1 H1 R1 st1 r1 => ?_) fun x e z => z)
  unfold lft at q1
  cases hr : rng1 ds with
  | none => rw [hr] at q1; exact q1.elim
  | some is =>
    rw [hr] at q1
    unfold rng1 at hr
    split at hr
    · rename_i j
      split at hr
      · rename_i hb
        cases hr
        have := RepL.ints (ns := [j]) r1
        subst this
        exact ⟨j, rfl, (inR_of hb).1, (inR_of hb).2, q1 _ F1 H1 R1 st1 it_range⟩
      · cases hr
    · cases hr
theorem ei_range2 {fs : Mo (List D)} (ha : EaD X C W [a, b] fs) (hp : ∀ ta, PA X [a, b] ta → PI X tg e (iRng2 ta)) : EiD X C W tg e (bnd fs fun ds => lft (rng2 ds)) := by
  obtain ⟨ta, p1, s1⟩ := ha
  refine ⟨_, hp _ p1, fun F H σ ε R R0 q => ?_⟩
  refine s1 F H σ ε _ R0 (q.bind.imp (fun ds e q1 vs F1 H1 R1 st1 r1 => ?_) fun x e z => z)
  unfold lft at q1
  cases hr : rng2 ds with
  | none => rw [hr] at q1; exact q1.elim
  | some is =>
    rw [hr] at q1
    unfold rng2 at hr
    split at hr
    · rename_i i j
      split at hr
      · rename_i hb
        cases hr
        have := RepL.ints (ns := [i, j]) r1
        subst this
        exact ⟨i, j, rfl, ⟨(inR_of hb.1).1, (inR_of hb.1).2, (inR_of hb.2).1, (inR_of hb.2).2⟩, q1 _ F1 H1 R1 st1 it_range⟩
      · cases hr
    · cases hr

/-! ### comprehensions: one clause -/
def PtD (X : Cx) (C : Ct) (W : WX) (ifs : List Expr) (f : Mo Bool) : Prop := ∃ tt, PTs X ifs tt ∧ SdT X.K C W tt f
end
/-- the block's own names are forgotten -/
def wipeE (ε : List Ent) : List Nat → List Ent
  | [] => ε
  | v :: vs => (wipeE ε vs).set v .un
/-- the turns: what is kept goes to the end of acc -/
def lcGo (vs : List Nat) (t : Tg) (tt : Mo Bool) (te : Mo D) : List D → List D → Mo (List D)
  | [], acc => pur acc
  | d :: r, acc => fun ε => match t.parts d with
    | none => none
    | some ds => match tt (setL ε t.is ds) with
      | some (.ok true ε1) => (match te ε1 with
        | some (.ok y ε2) => if acc.length < 1000000 then lcGo vs t tt te r (acc ++ [y]) (wipeE ε2 vs) else none
        | _ => none)
      | some (.ok false ε1) => lcGo vs t tt te r acc (wipeE ε1 vs)
      | _ => none
/-- behind the block: its names hold what they held -/
def backE (ε ε' : List Ent) : List Nat → List Ent
  | [] => ε'
  | v :: vs => backE ε (ε'.set v (match ε[v]? with
    | some (.dat d) => .dat d
    | _ => .un)) vs
def mLc (vs : List Nat) (fi : Mo (List D)) (t : Tg) (tt : Mo Bool) (te : Mo D) : Mo (List D) := bnd fi fun ds => fun ε => match lcGo vs t tt te ds [] (wipeE ε vs) with
  | some (.ok acc ε') => some (.ok acc (backE ε ε' vs))
  | _ => none

section
variable {K : PySem.W.Frag} {C : Ct} {F H F' H' : Hp} {σ : St} {ε ε' : List Ent}
theorem Apart.set {b : Addr} (p : Apart σ ε b) (i : Nat) (x : Option V) {e : Ent} (he : e.mut = false) : Apart (σ.set i x) (ε.set i e) b := fun j e' hj hj' => by
  by_cases hij : i = j
  · subst hij
    have hl : i < ε.length := by
      have := (List.getElem?_eq_some_iff.mp hj').1
      rwa [List.length_set] at this
    rw [List.getElem?_set_self hl] at hj'
    cases hj'
    exact he
  · rw [List.getElem?_set_ne hij] at hj hj'
    exact p j e' hj hj'
theorem Apart.setL {b : Addr} : ∀ {is : List Nat} {vs : List V} {ds : List D} {σ : St} {ε : List Ent}, vs.length = ds.length → Apart σ ε b → Apart (setS σ is vs) (setL ε is ds) b
  | [], _, _, σ, ε, _, p => by unfold DL.setL setS; exact p
  | i :: is, [], [], σ, ε, _, p => by unfold DL.setL setS; exact p
  | i :: is, v :: vs, d :: ds, σ, ε, hl, p => by
    show Apart (setS (σ.set i (some v)) is vs) (DL.setL (ε.set i (.dat d)) is ds) b
    exact Apart.setL (by simpa using hl) (p.set i _ rfl)
  | i :: is, _ :: _, [], σ, ε, hl, p => by simp at hl
  | i :: is, [], _ :: _, σ, ε, hl, p => by simp at hl
theorem Apart.wipe {b : Addr} (p : Apart σ ε b) : ∀ vs : List Nat, Apart (L2.wipe σ vs) (wipeE ε vs) b
  | [] => p
  | v :: vs => (Apart.wipe p vs).set v none rfl
/-- a slot is emptied -/
theorem Rep.unset (R : Rep K C F H σ ε) (i : Nat) : Rep K C F H (σ.set i none) (ε.set i .un) where
  fh := R.fh
  ff := R.ff
  old := R.old
  keep := R.keep
  tr := R.tr
  len := by rw [List.length_set, List.length_set]; exact R.len
  ent := fun j e he => by
    by_cases hj : i = j
    · subst hj
      have hl : i < ε.length := by
        have := (List.getElem?_eq_some_iff.mp he).1
        rwa [List.length_set] at this
      rw [List.getElem?_set_self hl] at he
      cases he
      trivial
    · rw [List.getElem?_set_ne hj] at he
      rw [List.getElem?_set_ne hj]
      exact R.ent j e he
  dis := fun a b l e e' h1 h2 h3 h4 h5 h6 => by
    by_cases ha : i = a
    · subst ha
      have hl : i < ε.length := by
        have := (List.getElem?_eq_some_iff.mp h3).1
        rwa [List.length_set] at this
      rw [List.getElem?_set_self hl] at h3
      cases h3
      cases h5
    · by_cases hb : i = b
      · subst hb
        have hl : i < ε.length := by
          have := (List.getElem?_eq_some_iff.mp h4).1
          rwa [List.length_set] at this
        rw [List.getElem?_set_self hl] at h4
        cases h4
        cases h6
      · rw [List.getElem?_set_ne ha] at h1 h3
        rw [List.getElem?_set_ne hb] at h2 h4
        exact R.dis a b l e e' h1 h2 h3 h4 h5 h6
theorem Rep.wipe (R : Rep K C F H σ ε) : ∀ vs : List Nat, Rep K C F H (L2.wipe σ vs) (wipeE ε vs)
  | [] => R
  | v :: vs => (Rep.wipe R vs).unset v
/-- the slot's value comes back -/
theorem Rep.reset {i : Nat} (R : Rep K C F H (σ.set i none) ε) {e : Ent} (he : e = .un ∨ ∃ d x, e = .dat d ∧ σ[i]? = some (some x) ∧ RepD K F x d) : Rep K C F H σ (ε.set i e) where
  fh := R.fh
  ff := R.ff
  old := R.old
  keep := R.keep
  tr := R.tr
  len := by
    have := R.len
    rw [List.length_set] at this
    rw [List.length_set]; exact this
  ent := fun j e2 h2 => by
    by_cases hj : i = j
    · subst hj
      have hl : i < ε.length := by
        have := (List.getElem?_eq_some_iff.mp h2).1
        rwa [List.length_set] at this
      rw [List.getElem?_set_self hl] at h2
      cases h2
      rcases he with rfl | ⟨d, x, rfl, h3, h4⟩
      · trivial
      · exact ⟨x, h3, h4⟩
    · rw [List.getElem?_set_ne hj] at h2
      have q := R.ent j e2 h2
      rw [List.getElem?_set_ne hj] at q
      exact q
  dis := fun a b l e1 e2 h1 h2 h3 h4 h5 h6 => by
    have nm : e.mut = false := by
      rcases he with rfl | ⟨d, x, rfl, _⟩ <;> rfl
    by_cases ha : i = a
    · subst ha
      have hl : i < ε.length := by
        have := (List.getElem?_eq_some_iff.mp h3).1
        rwa [List.length_set] at this
      rw [List.getElem?_set_self hl] at h3
      cases h3
      rw [nm] at h5; cases h5
    · by_cases hb : i = b
      · subst hb
        have hl : i < ε.length := by
          have := (List.getElem?_eq_some_iff.mp h4).1
          rwa [List.length_set] at this
        rw [List.getElem?_set_self hl] at h4
        cases h4
        rw [nm] at h6; cases h6
      · rw [List.getElem?_set_ne ha] at h3
        rw [List.getElem?_set_ne hb] at h4
        exact R.dis a b l e1 e2 (by rw [List.getElem?_set_ne ha]; exact h1) (by rw [List.getElem?_set_ne hb]; exact h2) h3 h4 h5 h6
theorem Rep.back (R0 : Rep K C F H σ ε) (s : Same F F') : ∀ (vs : List Nat) {ε' : List Ent}, vs.Nodup → Rep K C F' H' (L2.wipe σ vs) ε' → Rep K C F' H' σ (backE ε ε' vs)
  | [], _, _, R => R
  | v :: vs, ε', nd, R => by
    have nd' := List.nodup_cons.mp nd
    refine Rep.back R0 s vs nd'.2 (Rep.reset (i := v) R ?_)
    cases h : ε[v]? with
    | none => exact .inl rfl
    | some e =>
      cases e with
      | dat d =>
        obtain ⟨x, h1, h2⟩ := R0.ent v _ h
        exact .inr ⟨d, x, rfl, by rw [wipe_out nd'.1]; exact h1, h2.mono s⟩
      | un => exact .inl rfl
      | xc => exact .inl rfl
      | own ds => exact .inl rfl
      | od ob => exact .inl rfl
      | ib ob => exact .inl rfl
      | io ds => exact .inl rfl
theorem apart_back {b : Addr} : ∀ (vs : List Nat) {ε' : List Ent}, Apart (L2.wipe σ vs) ε' b → vs.Nodup → Apart σ (backE ε ε' vs) b
  | [], _, p, _ => p
  | v :: vs, ε', p, nd => by
    have nd' := List.nodup_cons.mp nd
    refine apart_back vs (fun j e hj hj' => ?_) nd'.2
    by_cases hij : v = j
    · subst hij
      have hl : v < ε'.length := by
        have := (List.getElem?_eq_some_iff.mp hj').1
        rwa [List.length_set] at this
      rw [List.getElem?_set_self hl] at hj'
      cases hj'
      split <;> rfl
    · rw [List.getElem?_set_ne hij] at hj'
      refine p j e ?_ hj'
      show ((L2.wipe σ vs).set v none)[j]? = _
      rw [List.getElem?_set_ne hij]
      exact hj
/-- a loose object changes -/
theorem Rep.poke (R : Rep K C F H σ ε) {l : Addr} {o : HO} (h2 : F l = none) (h4 : C.H0 l = none) (h5 : Apart σ ε l) : Rep K C F (upd H l o) σ ε where
  fh := fun b x e => by
    rw [upd_ne (fun z => by rw [z, h2] at e; cases e)]
    exact R.fh b x e
  ff := R.ff
  old := R.old
  keep := fun b o' e n => by
    rw [upd_ne (fun z => by rw [z, h4] at e; cases e)]
    exact R.keep b o' e n
  tr := fun b e => by
    rw [upd_ne (fun z => e (by rw [z]; exact h4))]
    exact R.tr b e
  len := R.len
  ent := fun i e he => by
    have q := R.ent i e he
    cases e with
    | un => trivial
    | xc => exact q
    | dat d => exact q
    | own ds =>
      obtain ⟨m, vs, a, b, c, d, g⟩ := q
      have ne : m ≠ l := fun z => by
        have := h5 i _ (z ▸ a) he
        cases this
      exact ⟨m, vs, a, by rw [upd_ne ne]; exact b, c, d, g⟩
    | io ds =>
      obtain ⟨m, vs, a, b, c, d, g⟩ := q
      have ne : m ≠ l := fun z => by
        have := h5 i _ (z ▸ a) he
        cases this
      exact ⟨m, vs, a, by rw [upd_ne ne]; exact b, c, d, g⟩
    | od ob =>
      obtain ⟨m, vs, a, b, c, d, g⟩ := q
      have ne : m ≠ l := fun z => by
        have := h5 i _ (z ▸ a) he
        cases this
      exact ⟨m, vs, a, by rw [upd_ne ne]; exact b, c, d, g⟩
    | ib ob =>
      obtain ⟨m, vs, a, b, c, d, g⟩ := q
      have ne : m ≠ l := fun z => by
        have := h5 i _ (z ▸ a) he
        cases this
      exact ⟨m, vs, a, by rw [upd_ne ne]; exact b, c, d, g⟩
  dis := R.dis
theorem Rep.newApart (R : Rep K C F H σ ε) {l : Addr} (h : H l = none) : F l = none ∧ C.H0 l = none ∧ Apart σ ε l := by
  refine ⟨R.fh.free h, ?_, fun j e hj he => ?_⟩
  · cases q : C.H0 l with
    | none => rfl
    | some o => exact absurd h (R.tr l (by rw [q]; exact fun z => by cases z))
  · cases hm : e.mut with
    | false => rfl
    | true =>
      have q := R.ent j e he
      cases e with
      | un => cases hm
      | xc => cases hm
      | dat d => cases hm
      | own ds =>
        obtain ⟨m, vs, a, b, _⟩ := q
        rw [hj] at a; cases a
        rw [h] at b; cases b
      | io ds =>
        obtain ⟨m, vs, a, b, _⟩ := q
        rw [hj] at a; cases a
        rw [h] at b; cases b
      | od ob =>
        obtain ⟨m, vs, a, b, _⟩ := q
        rw [hj] at a; cases a
        rw [h] at b; cases b
      | ib ob =>
        obtain ⟨m, vs, a, b, _⟩ := q
        rw [hj] at a; cases a
        rw [h] at b; cases b
end

/-! ### expressions that give a new list of one's own -/
def OkO (K : PySem.W.Frag) (C : Ct) (F H : Hp) (σ : St) (ε : List Ent) (Q : VK) : List D → List Ent → Prop := fun ds ε' => ∀ l vs F' H', Rep K C F' H' σ ε' → Stp σ ε ε' F H F' H' → H' l = some (.lst vs) → F' l = none → RepL K F' vs ds →
  C.H0 l = none → Apart σ ε' l → H l = none → Q (.ref l) H'
def SdO (K : PySem.W.Frag) (C : Ct) (W : WX) (te : TE) (f : Mo (List D)) : Prop := ∀ F H σ ε Q, Rep K C F H σ ε → Good (f ε) (OkO K C F H σ ε Q) (ExP K C W F H σ ε) → te σ H Q
def EvO (X : Cx) (C : Ct) (W : WX) (e : Expr) (f : Mo (List D)) : Prop := ∃ te, PE X e te ∧ SdO X.K C W te f
def mFz (f : Mo (List D)) : Mo D := bnd f fun ds => pur (.lst ds)
theorem SdO.frz {K : PySem.W.Frag} {C : Ct} {W : WX} {te : TE} {f : Mo (List D)} (h : SdO K C W te f) : SdE K C W te (mFz f) := fun F H σ ε Q R q => by
  refine h F H σ ε Q R (q.bind.imp (fun ds e q1 l vs F1 H1 R1 st1 h1 h2 h3 h4 h5 h6 => ?_) fun x e z => z)
  have R2 := R1.freeze h1 h2 h4 h5
  have s2 : Same F1 (upd F1 l (.lst vs)) := same_upd h2
  exact q1 (.ref l) _ _ R2 ⟨st1.ff.trans s2, st1.hh, fun b hb p => by
    rw [upd_ne (fun z => hb (by rw [z]; exact h6))]
    exact st1.old b hb p, st1.ap, st1.tr⟩ (.lst upd_same (h3.mono s2))
theorem EvO.frz {X : Cx} {C : Ct} {W : WX} {e : Expr} {f : Mo (List D)} (h : EvO X C W e f) : EvD X C W e (mFz f) := by
  obtain ⟨te, p, s⟩ := h
  exact ⟨te, p, s.frz⟩

theorem wipe_len (σ : St) : ∀ vs : List Nat, (L2.wipe σ vs).length = σ.length
  | [] => rfl
  | v :: vs => by
    show ((L2.wipe σ vs).set v none).length = _
    rw [List.length_set]; exact wipe_len σ vs
theorem wipe_at (σ : St) (j : Nat) : ∀ vs : List Nat, (L2.wipe σ vs)[j]? = if j ∈ vs then (if j < σ.length then some none else none) else σ[j]?
  | [] => by simp [L2.wipe]
  | v :: vs => by
    show ((L2.wipe σ vs).set v none)[j]? = _
    by_cases hv : v = j
    · subst hv
      rw [if_pos List.mem_cons_self]
      by_cases hl : v < σ.length
      · rw [if_pos hl, List.getElem?_set_self (by rw [wipe_len]; exact hl)]
      · rw [if_neg hl, List.getElem?_eq_none (by rw [List.length_set, wipe_len]; omega)]
    · rw [List.getElem?_set_ne hv, wipe_at σ j vs]
      by_cases hm : j ∈ vs
      · rw [if_pos hm, if_pos (List.mem_cons_of_mem _ hm)]
      · rw [if_neg hm, if_neg (fun z => by
          rcases List.mem_cons.mp z with e | e
          · exact hv e.symm
          · exact hm e)]
theorem setS_len : ∀ (is : List Nat) (xs : List V) (τ : St), (setS τ is xs).length = τ.length
  | [], _, τ => by unfold setS; rfl
  | i :: is, [], τ => by unfold setS; rfl
  | i :: is, x :: xs, τ => by
    show (setS (τ.set i (some x)) is xs).length = _
    rw [setS_len is xs, List.length_set]
theorem setS_at {j : Nat} : ∀ (is : List Nat) (xs : List V) (τ : St), j ∉ is → (setS τ is xs)[j]? = τ[j]?
  | [], _, τ, _ => by unfold setS; rfl
  | i :: is, [], τ, _ => by unfold setS; rfl
  | i :: is, x :: xs, τ, h => by
    show (setS (τ.set i (some x)) is xs)[j]? = _
    rw [setS_at is xs _ (fun z => h (List.mem_cons_of_mem _ z)), List.getElem?_set_ne (fun z => h (by rw [z]; exact List.mem_cons_self))]
theorem wipe_setS {vs is : List Nat} (hin : ∀ i ∈ is, i ∈ vs) (xs : List V) (σ : St) : L2.wipe (setS (L2.wipe σ vs) is xs) vs = L2.wipe σ vs := by
  apply List.ext_getElem?
  intro j
  rw [wipe_at, wipe_at]
  by_cases hm : j ∈ vs
  · rw [if_pos hm, if_pos hm, setS_len, wipe_len]
  · rw [if_neg hm, if_neg hm, setS_at _ _ _ (fun z => hm (hin j z)), wipe_at, if_neg hm]
theorem wipe_wipe (vs : List Nat) (σ : St) : L2.wipe (L2.wipe σ vs) vs = L2.wipe σ vs := by
  have := wipe_setS (vs := vs) (is := []) (fun i h => by cases h) [] σ
  unfold setS at this
  exact this
section
variable {K : PySem.W.Frag} {C : Ct} {W : WX}
/-- the comprehension's loop -/
theorem sd_lc {wi : TI} {g : TG} {tt : TT} {te : TE} {vs : List Nat} {fi : Mo (List D)} {t : Tg} {ft : Mo Bool} {fe : Mo D} {W0 : WX} (nd : vs.Nodup) (hin : ∀ i ∈ t.is, i ∈ vs) (si : SdI K C W wi fi) (sg : SdG K g t)
    (stt : SdT K C W0 tt ft) (ste : SdE K C W0 te fe) : SdO K C W (tLc wi g tt te vs) (mLc vs fi t ft fe) := fun F H σ ε Q R q => by
  refine si F H σ ε _ R (q.bind.imp (fun ds e q1 J F1 H1 R1 st1 it => ?_) fun x e z => z)
  intro D hD
  obtain ⟨fD, h0D, apD⟩ := R1.newApart hD
  cases hgo : lcGo vs t ft fe ds [] (wipeE e vs) with
  | none => rw [hgo] at q1; exact q1.elim
  | some res =>
  cases res with
  | ex x ε' => rw [hgo] at q1; exact q1.elim
  | ok out εo =>
  rw [hgo] at q1
  -- the invariant
  refine ⟨fun i m H' => m = ds.length - i ∧ i ≤ ds.length ∧ ∃ F' ε' acc accV, Rep K C F' H' (L2.wipe σ vs) ε' ∧ Same F1 F' ∧ (∀ b o, H1 b = some o → Apart (L2.wipe σ vs) (wipeE e vs) b → H' b = some o) ∧ (∀ b, H1 b ≠ none → Apart (L2.wipe σ vs) (wipeE e vs) b → F' b = F1 b) ∧
      (∀ b, Apart (L2.wipe σ vs) (wipeE e vs) b → Apart (L2.wipe σ vs) ε' b) ∧ (∀ b, H1 b ≠ none → H' b ≠ none) ∧ H' D = some (.lst accV) ∧ F' D = none ∧ RepL K F' accV acc ∧ lcGo vs t ft fe (ds.drop i) acc ε' = some (.ok out εo), ⟨ds.length, by simp, Nat.zero_le _, F1, wipeE e vs, [], [], ?_⟩, ?_⟩
  · refine ⟨((R1.wipe vs).poke fD h0D (apD.wipe vs)), Same.refl F1, fun b o h _ => ?_, fun _ _ _ => rfl, fun _ p => p, fun b h => by rw [upd_ne (fun z => h (by rw [z]; exact hD))]; exact h, upd_same, fD, .nil, by rw [List.drop_zero]; exact hgo⟩
    rw [upd_ne (fun z => by rw [z, hD] at h; cases h)]
    exact h
  · rintro i m H2 ⟨rfl, hi, F2, ε2, acc, accV, R2, s12, k1, k2, k3, k4, hD2, fD2, ra, go⟩
    have apD2 : Apart (L2.wipe σ vs) ε2 D := k3 D (apD.wipe vs)
    by_cases hlt : i < ds.length
    · refine .inr ⟨it.go F2 H2 i s12 R2.fh hlt, _, fun H' w => ⟨ds.length - (i + 1), by omega, rfl, by omega, w⟩, fun x H3 y => ?_⟩
      obtain ⟨d, F3, hd, st3, rd⟩ := it.yl F2 H2 i x H3 s12 R2.fh hlt y
      have R3 := R2.step st3
      have hds : ds.drop i = d :: ds.drop (i + 1) := by
        obtain ⟨hl, e2⟩ := List.getElem?_eq_some_iff.mp hd
        rw [List.drop_eq_getElem_cons hl, e2]
      rw [hds] at go
      unfold lcGo at go
      cases hp : t.parts d with
      | none => rw [hp] at go; cases go
      | some ps =>
        rw [hp] at go
        dsimp only at go
        refine sg F3 H3 _ x d ps _ R3.fh rd hp fun xs rx => ⟨wipe_setS hin xs σ, ?_⟩
        have R4 := R3.setL (is := t.is) rx
        have ap4 : ∀ b, Apart (L2.wipe σ vs) ε2 b → Apart (setS (L2.wipe σ vs) t.is xs) (setL ε2 t.is ps) b := fun b p => p.setL rx.length
        have hD3 : H3 D = some (.lst accV) := st3.hh D _ hD2
        have fD3 : F3 D = none := (st3.old D (by rw [hD2]; exact fun z => by cases z)).trans fD2
        have l1 : ∀ b o, H1 b = some o → Apart (L2.wipe σ vs) (wipeE e vs) b → H3 b = some o := fun b o h p => st3.hh b o (k1 b o h p)
        have l2 : ∀ b, H1 b ≠ none → Apart (L2.wipe σ vs) (wipeE e vs) b → F3 b = F1 b := fun b h p => by
          cases q : H1 b with
          | none => exact absurd q h
          | some o => exact (st3.old b (by rw [k1 b o q p]; exact fun z => by cases z)).trans (k2 b h p)
        -- what a turn's evaluations leave
        have keep : ∀ {εa : List Ent} {Fa Ha : Hp}, Stp (setS (L2.wipe σ vs) t.is xs) (setL ε2 t.is ps) εa F3 H3 Fa Ha → Rep K C Fa Ha (setS (L2.wipe σ vs) t.is xs) εa →
            Rep K C Fa Ha (L2.wipe σ vs) (wipeE εa vs) ∧ Same F1 Fa ∧ (∀ b o, H1 b = some o → Apart (L2.wipe σ vs) (wipeE e vs) b → Ha b = some o) ∧ (∀ b, H1 b ≠ none → Apart (L2.wipe σ vs) (wipeE e vs) b → Fa b = F1 b) ∧
            (∀ b, Apart (L2.wipe σ vs) (wipeE e vs) b → Apart (L2.wipe σ vs) (wipeE εa vs) b) ∧ (∀ b, H1 b ≠ none → Ha b ≠ none) ∧ Ha D = some (.lst accV) ∧ Fa D = none := fun {εa Fa Ha} st Ra => by
          have Rw := Ra.wipe vs
          rw [wipe_setS hin] at Rw
          refine ⟨Rw, (s12.trans st3.ff).trans st.ff, fun b o h p => st.hh b o (l1 b o h p) (ap4 b (k3 b p)), fun b h p => ?_, fun b p => ?_, fun b h => st.tr b (Same.some st3.hh (k4 b h)), st.hh D _ hD3 (ap4 D apD2), (st.old D (by rw [hD3]; exact fun z => by cases z) (ap4 D apD2)).trans fD3⟩
          · cases q : H1 b with
            | none => exact absurd q h
            | some o => exact (st.old b (by rw [l1 b o q p]; exact fun z => by cases z) (ap4 b (k3 b p))).trans (l2 b h p)
          · have := (st.ap b (ap4 b (k3 b p))).wipe vs
            rw [wipe_setS hin] at this
            exact this
        refine stt F3 H3 _ (setL ε2 t.is ps) _ R4 ?_
        cases ht : ft (setL ε2 t.is ps) with
        | none => rw [ht] at go; cases go
        | some rt =>
        rw [ht] at go
        cases rt with
        | ex x2 e2 => cases go
        | ok bt ε3 =>
        cases bt with
        | false =>
          intro F4 H4 R5 st5
          obtain ⟨m1, m2, m3, m4, m5, m8, m6, m7⟩ := keep st5 R5
          refine iteF ?_
          exact ⟨F4, wipeE ε3 vs, acc, accV, m1, m2, m3, m4, m5, m8, m6, m7, ra.mono (st3.ff.trans st5.ff), go⟩
        | true =>
          intro F4 H4 R5 st5
          refine iteT ?_
          dsimp only at go
          refine ste F4 H4 _ ε3 _ R5 ?_
          cases he : fe ε3 with
          | none => rw [he] at go; cases go
          | some re =>
          rw [he] at go
          cases re with
          | ex x2 e2 => cases go
          | ok y ε4 =>
          dsimp only at go
          intro v F5 H5 R6 st6 rv
          by_cases hz : acc.length < 1000000
          · rw [if_pos hz] at go
            obtain ⟨m1, m2, m3, m4, m5, m8, m6, m7⟩ := keep (st5.trans st6) R6
            have apD5 := m5 D (apD.wipe vs)
            have ra5 := ra.mono (st3.ff.trans (st5.ff.trans st6.ff))
            refine ⟨accV, m6, by rw [ra.length]; exact Nat.lt_of_lt_of_le hz (by decide), F5, wipeE ε4 vs, acc ++ [y], accV ++ [v], m1.poke m7 h0D apD5, m2, fun b o h p => ?_, m4, m5, fun b h => by
                by_cases hb : b = D
                · rw [hb, upd_same]; exact fun z => by cases z
                · rw [upd_ne hb]; exact m8 b h, upd_same, m7, ra5.append (.cons rv .nil), go⟩
            rw [upd_ne (fun z => by rw [z, hD] at h; cases h)]
            exact m3 b o h p
          · rw [if_neg hz] at go; cases go
    · have e0 : i = ds.length := by omega
      subst e0
      refine .inl ⟨it.st F2 H2 _ s12 R2.fh (Nat.le_refl _), ?_⟩
      rw [List.drop_length] at go
      unfold lcGo pur at go
      cases go
      have Rb := R1.back s12 vs nd R2
      refine q1 D accV F2 H2 Rb (st1.trans ⟨s12, fun b o h p => k1 b o h (p.wipe vs), fun b h p => k2 b h (p.wipe vs), fun b p => apart_back vs (k3 b (p.wipe vs)) nd, k4⟩) hD2 fD2 ra h0D (apart_back vs apD2 nd) ?_
      cases qD : H D with
      | none => rfl
      | some o => exact absurd hD (st1.tr D (by rw [qD]; exact fun z => by cases z))
end
end DL

set_option Elab.async false
set_option linter.all false
set_option maxRecDepth 100000
namespace DL
open PySem PySem.Spec L2

/-! ### uniform readings -/
def canE (K : PySem.W.Frag) (C : Ct) (W : WX) (f : Mo D) : TE := fun σ H Q => ∃ F ε, Rep K C F H σ ε ∧ Good (f ε) (OkE K C F H σ ε Q) (ExP K C W F H σ ε)
theorem EvD.can {X : Cx} {C : Ct} {W : WX} {e : Expr} {f : Mo D} (h : EvD X C W e f) : PE X e (canE X.K C W f) := by
  obtain ⟨te, p, s⟩ := h
  exact ⟨fun pins st σ H Q I ⟨F, ε, R, q⟩ => p.run pins st σ H Q I (s F H σ ε Q R q)⟩
theorem sd_can {K : PySem.W.Frag} {C : Ct} {W : WX} {f : Mo D} : SdE K C W (canE K C W f) f := fun F H σ ε Q R q => ⟨F, ε, R, q⟩
def canT (K : PySem.W.Frag) (C : Ct) (W : WX) (f : Mo Bool) : TT := fun σ H Q => ∃ F ε, Rep K C F H σ ε ∧ Good (f ε) (OkB K C F H σ ε Q) (ExP K C W F H σ ε)
theorem PtD.can {X : Cx} {C : Ct} {W : WX} {e : List Expr} {f : Mo Bool} (h : PtD X C W e f) : PTs X e (canT X.K C W f) := by
  obtain ⟨te, p, s⟩ := h
  exact ⟨fun pins st σ H Q I ⟨F, ε, R, q⟩ => p.run pins st σ H Q I (s F H σ ε Q R q)⟩
theorem sd_canT {K : PySem.W.Frag} {C : Ct} {W : WX} {f : Mo Bool} : SdT K C W (canT K C W f) f := fun F H σ ε Q R q => ⟨F, ε, R, q⟩
section
variable {X : Cx} {C : Ct} {W : WX} {a b c e tg : Expr} {pos : Pos} {f g h : Mo D}
abbrev W0 : WX := fun _ _ _ _ => False
theorem pt_nilD : PtD X C W [] (pur true) := ⟨_, pts_nil, fun F H σ ε Q R q => q F H R Stp.refl⟩
theorem pt_oneD {f : Mo Bool} (h : TeD X C W a f) : PtD X C W [a] f := by
  obtain ⟨te, p, s⟩ := h
  exact ⟨te, pts_one p, s⟩
theorem ev_lc {elt iter : Expr} {ifs : List Expr} {scope : Scope} {own : List (Str × Nat)} {g : TG} {t : Tg} {fi : Mo (List D)} {ft : Mo Bool} {fe : Mo D} (hc : X.calm = true) (hN : X.N.Nodup) (hi : EiD X C W tg iter fi) (ok : BlkOk X.N X.env.scope scope own)
    (hg : ∀ (s : Shared) (H : Hp) (Ca : Addr) (cl : List (Str × Addr)) (fp : List Addr), PG (X.blk s H scope (compEnvC scope cl Ca X.env) fp) tg g) (sg : SdG X.K g t)
    (ht : ∀ (s : Shared) (H : Hp) (Ca : Addr) (cl : List (Str × Addr)) (fp : List Addr), PtD (X.blk s H scope (compEnvC scope cl Ca X.env) fp) C W0 ifs ft)
    (he : ∀ (s : Shared) (H : Hp) (Ca : Addr) (cl : List (Str × Addr)) (fp : List Addr), EvD (X.blk s H scope (compEnvC scope cl Ca X.env) fp) C W0 elt fe)
    (nd : (own.map (·.2)).Nodup) (hin : ∀ i ∈ t.is, i ∈ own.map (·.2)) (hs : ∀ x, foldedSetIterable iter X.env x = pure x := by intro _; rfl) :
    EvO X C W (.ListComp elt [⟨tg, iter, ifs, 0⟩] scope pos) (mLc (own.map (·.2)) fi t ft fe) := by
  obtain ⟨wi, p, si⟩ := hi
  exact ⟨_, pe_lc hc hN p ok hg (fun s H Ca cl fp => (ht s H Ca cl fp).can) (fun s H Ca cl fp => (he s H Ca cl fp).can) hs, sd_lc nd hin si sg sd_canT sd_can⟩
end

/-! ### new lists of one's own -/
section
variable {X : Cx} {C : Ct} {W : WX} {a b c e tg : Expr} {pos : Pos} {f g h : Mo D}
theorem Rep.loose {K : PySem.W.Frag} {C : Ct} {F H : Hp} {σ : St} {ε : List Ent} (R : Rep K C F H σ ε) {p : Addr} (o : HO) (h : H p = none) : Rep K C F (upd H p o) σ ε := R.step (Ste.loose R.fh h)
theorem ok_new {K : PySem.W.Frag} {F H F1 H1 : Hp} {σ : St} {ε ε1 : List Ent} {Q : VK} {ds : List D} {xs : List V} (R : Rep K C F H σ ε) (R1 : Rep K C F1 H1 σ ε1) (st : Stp σ ε ε1 F H F1 H1) (r : RepL K F1 xs ds) (q : OkO K C F H σ ε Q ds ε1) {p : Addr} (hp : H1 p = none) : Q (.ref p) (upd H1 p (.lst xs)) := by
  obtain ⟨h1, h2, h3⟩ := R1.newApart hp
  refine q p xs F1 _ (R1.loose _ hp) (st.trans (Ste.loose R1.fh hp).stp) upd_same h1 r h2 h3 ?_
  cases qq : H p with
  | none => rfl
  | some o => exact absurd hp (st.tr p (by rw [qq]; exact fun z => by cases z))
def mLstO (f : Mo (List D)) : Mo (List D) := bnd f fun ds => lft (if ds.length ≤ 1000 then some ds else none)
theorem eo_lst {es : List Expr} {fs : Mo (List D)} (h : EaD X C W es fs) : EvO X C W (.List es pos) (mLstO fs) := by
  obtain ⟨te, p1, s1⟩ := h
  refine ⟨_, pe_lst p1, fun F H σ ε Q R q => ?_⟩
  refine s1 F H σ ε _ R (q.bind.imp (fun ds e q1 vs F1 H1 R1 st1 r1 => ?_) fun x e z => z)
  unfold lft at q1
  by_cases hl : ds.length ≤ 1000
  · rw [if_pos hl] at q1
    exact ⟨by rw [r1.length]; exact le_line hl, fun p hp => ok_new R R1 st1 r1 q1 hp⟩
  · rw [if_neg hl] at q1; exact q1.elim
/-- list(x) -/
def mListO (f : Mo (List D)) : Mo (List D) := bnd f fun ds => lft (match ds with
  | [d] => seqOf d
  | _ => none)
theorem eo_list {es : List Expr} {fs : Mo (List D)} (h : EaD X C W es fs) (hp : ∀ ta, PA X es ta → PE X e (tCB (fun xs H Q => ∃ p ys, xs = [.ref p] ∧ (SqL X.K H p ys ∨ SqT X.K H p ys) ∧ ∀ l, H l = none → Q (.ref l) (upd H l (.lst ys))) ta)) : EvO X C W e (mListO fs) := by
  obtain ⟨te, p1, s1⟩ := h
  refine ⟨_, hp _ p1, fun F H σ ε Q R q => ?_⟩
  refine s1 F H σ ε _ R (q.bind.imp (fun ds e q1 vs F1 H1 R1 st1 r1 => ?_) fun x e z => z)
  unfold lft at q1
  cases r1 with
  | nil => exact q1.elim
  | cons r1 r2 =>
    cases r2 with
    | cons _ _ => exact q1.elim
    | nil =>
      rename_i d
      dsimp only at q1
      cases hd : seqOf d with
      | none => rw [hd] at q1; exact q1.elim
      | some es =>
        rw [hd] at q1
        obtain ⟨p, xs, rfl, h, r⟩ := rep_seq r1 hd
        exact ⟨p, xs, rfl, seq_up R1.fh h, fun l hl => ok_new R R1 st1 r q1 hl⟩
/-- xs[a:b] of a list, as one's own -/
def mSlO (f : Mo D) (fl fh : Mo (Option Int)) : Mo (List D) := bnd f fun d => bnd fl fun lo => bnd fh fun hi => lft ((lstOf d).map fun ds => cutD ds lo hi)
theorem eo_sl {lo hi : Option Expr} {fl fh : Mo (Option Int)} {p2 : Pos} (ha : EvD X C W a f) (hl : EoD X C W lo fl) (hh : EoD X C W hi fh) : EvO X C W (.Subscript a (.Slice lo hi none p2) pos) (mSlO f fl fh) := by
  obtain ⟨ta, p0, s0⟩ := ha
  obtain ⟨tl, p1, s1⟩ := hl
  obtain ⟨th, p2', s2⟩ := hh
  refine ⟨_, pe_slice sl_list p0 p1 p2', fun F H σ ε Q R q => ?_⟩
  refine s0 F H σ ε _ R (q.bind.imp (fun d e q1 v F1 H1 R1 st1 r1 => ?_) fun x e z => z)
  refine s1 F1 H1 σ e _ R1 (q1.bind.imp (fun l e2 q2 F2 H2 R2 st2 => ?_) fun x e z => z.imp st1)
  refine s2 F2 H2 σ e2 _ R2 (q2.bind.imp (fun u e3 q3 F3 H3 R3 st3 => ?_) fun x e z => z.imp (st1.trans st2))
  have r3 := (r1.mono st2.ff).mono st3.ff
  cases d with
  | lst ds =>
    obtain ⟨p, xs, rfl, h, r⟩ := rep_seqs r3
    exact ⟨p, xs, rfl, Same.seq R3.fh h, fun l' hl => ok_new R R3 ((st1.trans st2).trans st3) (rep_cut r l u) q3 hl⟩
  | rdl ds =>
    obtain ⟨p, xs, rfl, h, r⟩ := rep_rdl r3
    exact ⟨p, xs, rfl, Same.seq R3.fh h, fun l' hl => ok_new R R3 ((st1.trans st2).trans st3) (rep_cut r l u) q3 hl⟩
  | _ => exact q3.elim
/-- xs + ys of lists, as one's own -/
def mCatO (f g : Mo D) : Mo (List D) := bnd f fun a => bnd g fun b => lft (match a, b with
  | .lst x, .lst y => if x.length + y.length ≤ 1000000 then some (x ++ y) else none
  | _, _ => none)
theorem eo_cat (ha : EvD X C W a f) (hb : EvD X C W b g) : EvO X C W (.BinOp a .Add b pos) (mCatO f g) := by
  obtain ⟨ta, p0, s0⟩ := ha
  obtain ⟨tb, p1, s1⟩ := hb
  refine ⟨_, pe_op op_cat p0 p1, fun F H σ ε Q R q => ?_⟩
  refine s0 F H σ ε _ R (q.bind.imp (fun d e q1 v F1 H1 R1 st1 r1 => ?_) fun x e z => z)
  refine s1 F1 H1 σ e _ R1 (q1.bind.imp (fun d2 e2 q2 v2 F2 H2 R2 st2 r2 => ?_) fun x e z => z.imp st1)
  have r1' := r1.mono st2.ff
  cases d with
  | lst x =>
    cases d2 with
    | lst y =>
      obtain ⟨p, xs, rfl, h, r⟩ := rep_lst r1'
      obtain ⟨p2, ys, rfl, h2, r'⟩ := rep_lst r2
      unfold lft at q2
      dsimp only at q2
      by_cases hz : x.length + y.length ≤ 1000000
      · rw [if_pos hz] at q2
        exact ⟨p, p2, xs, ys, rfl, rfl, R2.fh _ _ h, R2.fh _ _ h2, by rw [r.length, r'.length]; exact line_big hz, fun l hl => ok_new R R2 (st1.trans st2) (r.append r') q2 hl⟩
      · rw [if_neg hz] at q2; exact q2.elim
    | _ => exact q2.elim
  | _ => exact q2.elim

/-! ### statements -/
inductive ResS where
  | nx (ε : List Ent) | rt (d : D) (ε : List Ent) | ro (ds : List D) (ε : List Ent) | bk (ε : List Ent) | ct (ε : List Ent) | ex (x : Xn) (ε : List Ent)
abbrev MoS := List Ent → Option ResS
def GoodS (K : PySem.W.Frag) (C : Ct) (W : WX) (F : Hp) (D : Ends) (r : Option ResS) : Prop := match r with
  | some (.nx ε') => ∀ F' H' σ', Rep K C F' H' σ' ε' → Same F F' → D.nx σ' H'
  | some (.rt d ε') => ∀ v F' H' σ', Rep K C F' H' σ' ε' → Same F F' → RepD K F' v d → D.rt v H'
  | some (.ro ds ε') => ∀ l vs F' H' σ', Rep K C F' H' σ' ε' → Same F F' → H' l = some (.lst vs) → F' l = none → RepL K F' vs ds → C.H0 l = none → D.rt (.ref l) H'
  | some (.bk ε') => ∀ F' H' σ', Rep K C F' H' σ' ε' → Same F F' → D.bk σ' H'
  | some (.ct ε') => ∀ F' H' σ', Rep K C F' H' σ' ε' → Same F F' → D.ct σ' H'
  | some (.ex x ε') => ∀ c od F' H' σ', Rep K C F' H' σ' ε' → Same F F' → RepX K F' H' x c od → W c od σ' H'
  | none => False
theorem GoodS.mono {K : PySem.W.Frag} {C : Ct} {W : WX} {F F' : Hp} {D : Ends} {r : Option ResS} (h : GoodS K C W F D r) (s : Same F F') : GoodS K C W F' D r := by
  cases r with
  | none => exact h
  | some r =>
    cases r with
    | nx e => exact fun F2 H2 σ2 R s2 => h F2 H2 σ2 R (s.trans s2)
    | rt d e => exact fun v F2 H2 σ2 R s2 r => h v F2 H2 σ2 R (s.trans s2) r
    | ro ds e => exact fun l vs F2 H2 σ2 R s2 => h l vs F2 H2 σ2 R (s.trans s2)
    | bk e => exact fun F2 H2 σ2 R s2 => h F2 H2 σ2 R (s.trans s2)
    | ct e => exact fun F2 H2 σ2 R s2 => h F2 H2 σ2 R (s.trans s2)
    | ex x e => exact fun c od F2 H2 σ2 R s2 r => h c od F2 H2 σ2 R (s.trans s2) r
def SdS (K : PySem.W.Frag) (C : Ct) (W : WX) (ts : TS) (g : MoS) : Prop := ∀ F H σ ε D, Rep K C F H σ ε → GoodS K C W F D (g ε) → ts D σ H
def StD (X : Cx) (C : Ct) (W : WX) (s : Stmt) (g : MoS) : Prop := ∃ ts, PS X s ts ∧ SdS X.K C W ts g
def SsD (X : Cx) (C : Ct) (W : WX) (s : List Stmt) (g : MoS) : Prop := ∃ ts, PSs X s ts ∧ SdS X.K C W ts g
def mNil : MoS := fun ε => some (.nx ε)
def mSeq (g1 g2 : MoS) : MoS := fun ε => match g1 ε with
  | some (.nx ε') => g2 ε'
  | r => r
variable {s s2 : Stmt} {ss : List Stmt} {m m2 : MoS}
theorem ss_nil : SsD X C W [] mNil := ⟨_, pss_nil, fun F H σ ε D R q => q F H σ R (Same.refl F)⟩
theorem ss_one (h : StD X C W s m) : SsD X C W [s] m := by
  obtain ⟨t, p, sd⟩ := h
  exact ⟨t, pss_one p, sd⟩
theorem ss_cons (h : StD X C W s m) (h2 : SsD X C W ss m2) : SsD X C W (s :: ss) (mSeq m m2) := by
  obtain ⟨t, p, sd⟩ := h
  obtain ⟨t2, p2, sd2⟩ := h2
  refine ⟨_, pss_cons p p2, fun F H σ ε D R q => sd F H σ ε _ R ?_⟩
  unfold mSeq at q
  cases hm : m ε with
  | none => rw [hm] at q; exact q
  | some r =>
    rw [hm] at q
    cases r with
    | nx e => exact fun F2 H2 σ2 R2 s2 => sd2 F2 H2 σ2 e D R2 (q.mono s2)
    | rt d e => exact q
    | ro d e => exact q
    | bk e => exact q
    | ct e => exact q
    | ex x e => exact q
/-- an expression's answer, then -/
def mThen {α : Type} (f : Mo α) (k : α → MoS) : MoS := fun ε => match f ε with
  | some (.ok a ε') => k a ε'
  | some (.ex x ε') => some (.ex x ε')
  | none => none
theorem then_good {α : Type} {K : PySem.W.Frag} {F H : Hp} {σ : St} {ε : List Ent} {f : Mo α} {k : α → MoS} {D : Ends} (q : GoodS K C W F D (mThen f k ε)) : Good (f ε) (fun a ε' => GoodS K C W F D (k a ε')) (ExP K C W F H σ ε) := by
  unfold mThen at q
  cases hf : f ε with
  | none => rw [hf] at q; exact q
  | some r =>
    rw [hf] at q
    cases r with
    | ok a e => exact q
    | ex x e => exact fun c od F' H' R st r => q c od F' H' σ R st.ff r
def mAsg (t : Tg) (f : Mo D) : MoS := mThen f fun d ε => match t.parts d with
  | some ds => some (.nx (setL ε t.is ds))
  | none => none
theorem st_asgG {tgt : Expr} {g : TG} {t : Tg} (hp : ∀ te, PE X e te → PS X s (tAsg te g)) (sg : SdG X.K g t) (he : EvD X C W e f) : StD X C W s (mAsg t f) := by
  obtain ⟨te, p, sd⟩ := he
  refine ⟨_, hp _ p, fun F H σ ε D R q => ?_⟩
  refine sd F H σ ε _ R ((then_good q).imp (fun d e q1 v F1 H1 R1 st1 r1 => ?_) fun x e z => z)
  cases hps : t.parts d with
  | none => rw [hps] at q1; exact q1.elim
  | some ds =>
    rw [hps] at q1
    exact sg F1 H1 σ v d ds _ R1.fh r1 hps fun vs rx => q1 F1 H1 _ (R1.setL rx) st1.ff
def mSet (i : Nat) (f : Mo D) : MoS := mThen f fun d ε => some (.nx (ε.set i (.dat d)))
theorem st_set {i : Nat} (hp : ∀ te, PE X e te → PS X s (tAsg te (gName i))) (he : EvD X C W e f) : StD X C W s (mSet i f) := by
  obtain ⟨te, p, sd⟩ := he
  refine ⟨_, hp _ p, fun F H σ ε D R q => ?_⟩
  exact sd F H σ ε _ R ((then_good q).imp (fun d e q1 v F1 H1 R1 st1 r1 => q1 F1 H1 _ (R1.set i r1) st1.ff) fun x e z => z)
def mSetO (i : Nat) (f : Mo (List D)) : MoS := mThen f fun ds ε => some (.nx (ε.set i (.own ds)))
theorem st_setO {i : Nat} (hp : ∀ te, PE X e te → PS X s (tAsg te (gName i))) {f : Mo (List D)} (he : EvO X C W e f) : StD X C W s (mSetO i f) := by
  obtain ⟨te, p, sd⟩ := he
  refine ⟨_, hp _ p, fun F H σ ε D R q => ?_⟩
  exact sd F H σ ε _ R ((then_good q).imp (fun ds e q1 l vs F1 H1 R1 st1 h1 h2 h3 h4 h5 h6 => q1 F1 H1 _ (R1.setO i h1 h2 h3 h4 h5) st1.ff) fun x e z => z)
/-- y = [..]: a statement of its own -/
theorem st_lc {i : Nat} {y : Str} {py spos : Pos} {elt iter : Expr} {ifs : List Expr} {scope : Scope} {own : List (Str × Nat)} {g : TG} {t : Tg} {fi : Mo (List D)} {ft : Mo Bool} {fe : Mo D} (hc : X.calm = true) (hN : X.N.Nodup) (hy : X.N[i]? = some y) (hyl : X.env.scope.names.lookup y = some .local)
    (hsw : swapsWith (.ListComp elt [⟨tg, iter, ifs, 0⟩] scope pos) (some (.Name y py)) spos.line X.env = pure true) (hi : EiD X C W tg iter fi) (ok : BlkOk X.N X.env.scope scope own)
    (hg : ∀ (s : Shared) (H : Hp) (Ca : Addr) (cl : List (Str × Addr)) (fp : List Addr), PG (X.blk s H scope (compEnvC scope cl Ca X.env) fp) tg g) (sg : SdG X.K g t)
    (ht : ∀ (s : Shared) (H : Hp) (Ca : Addr) (cl : List (Str × Addr)) (fp : List Addr), PtD (X.blk s H scope (compEnvC scope cl Ca X.env) fp) C W0 ifs ft)
    (he : ∀ (s : Shared) (H : Hp) (Ca : Addr) (cl : List (Str × Addr)) (fp : List Addr), EvD (X.blk s H scope (compEnvC scope cl Ca X.env) fp) C W0 elt fe)
    (nd : (own.map (·.2)).Nodup) (hin : ∀ i ∈ t.is, i ∈ own.map (·.2)) (hs : ∀ x, foldedSetIterable iter X.env x = pure x := by intro _; rfl) :
    StD X C W (.Assign [.Name y py] (.ListComp elt [⟨tg, iter, ifs, 0⟩] scope pos) spos) (mSetO i (mLc (own.map (·.2)) fi t ft fe)) := by
  obtain ⟨wi, p, si⟩ := hi
  have sd := sd_lc (W := W) nd hin si sg (sd_canT (K := X.K) (C := C) (W := W0) (f := ft)) (sd_can (K := X.K) (C := C) (W := W0) (f := fe))
  refine ⟨_, ps_setLc (tt := canT X.K C W0 ft) (te := canE X.K C W0 fe) hc hN hy hyl hsw p ok hg (fun s H Ca cl fp => (ht s H Ca cl fp).can) (fun s H Ca cl fp => (he s H Ca cl fp).can) hs, fun F H σ ε D R q => ?_⟩
  exact sd F H σ ε _ R ((then_good q).imp (fun ds e q1 l vs F1 H1 R1 st1 h1 h2 h3 h4 h5 h6 => q1 F1 H1 _ (R1.setO i h1 h2 h3 h4 h5) st1.ff) fun x e z => z)
def mRet (f : Mo D) : MoS := mThen f fun d ε => some (.rt d ε)
theorem st_ret (he : EvD X C W e f) : StD X C W (.Return (some e) pos) (mRet f) := by
  obtain ⟨te, p, sd⟩ := he
  refine ⟨_, ps_ret p, fun F H σ ε D R q => ?_⟩
  exact sd F H σ ε _ R ((then_good q).imp (fun d e q1 v F1 H1 R1 st1 r1 => q1 v F1 H1 σ R1 st1.ff r1) fun x e z => z)
def mRetO (f : Mo (List D)) : MoS := mThen f fun ds ε => some (.ro ds ε)
theorem st_retO {f : Mo (List D)} (he : EvO X C W e f) : StD X C W (.Return (some e) pos) (mRetO f) := by
  obtain ⟨te, p, sd⟩ := he
  refine ⟨_, ps_ret p, fun F H σ ε D R q => ?_⟩
  exact sd F H σ ε _ R ((then_good q).imp (fun ds e q1 l vs F1 H1 R1 st1 h1 h2 h3 h4 h5 h6 => q1 l vs F1 H1 σ R1 st1.ff h1 h2 h3 h4) fun x e z => z)
def mDrop (f : Mo D) : MoS := mThen f fun _ ε => some (.nx ε)
theorem st_expr (he : EvD X C W e f) (hs : swapsWith e none pos.line X.env = pure false := by rfl) : StD X C W (.Expr e pos) (mDrop f) := by
  obtain ⟨te, p, sd⟩ := he
  refine ⟨_, ps_expr p hs, fun F H σ ε D R q => ?_⟩
  exact sd F H σ ε _ R ((then_good q).imp (fun d e q1 v F1 H1 R1 st1 r1 => q1 F1 H1 σ R1 st1.ff) fun x e z => z)
def mIfS (t : Mo Bool) (m m2 : MoS) : MoS := mThen t fun b => if b = true then m else m2
theorem st_if {t : Mo Bool} {sa sb : List Stmt} (hc : TeD X C W c t) (ha : SsD X C W sa m) (hb : SsD X C W sb m2) : StD X C W (.If c sa sb pos) (mIfS t m m2) := by
  obtain ⟨tc, p0, s0⟩ := hc
  obtain ⟨ta, p1, s1⟩ := ha
  obtain ⟨tb, p2, s2⟩ := hb
  refine ⟨_, ps_if p0 p1 p2, fun F H σ ε D R q => ?_⟩
  refine s0 F H σ ε _ R ((then_good q).imp (fun d e q1 F1 H1 R1 st1 => ?_) fun x e z => z)
  cases d with
  | true =>
    refine iteT ?_
    rw [if_pos rfl] at q1
    exact s1 F1 H1 σ e D R1 (q1.mono st1.ff)
  | false =>
    refine iteF ?_
    rw [if_neg Bool.false_ne_true] at q1
    exact s2 F1 H1 σ e D R1 (q1.mono st1.ff)
theorem st_pass : StD X C W (.Pass pos) mNil := ⟨_, ps_pass, fun F H σ ε D R q => q F H σ R (Same.refl F)⟩
theorem st_break : StD X C W (.Break pos) (fun ε => some (.bk ε)) := ⟨_, ps_break, fun F H σ ε D R q => q F H σ R (Same.refl F)⟩
theorem st_continue : StD X C W (.Continue pos) (fun ε => some (.ct ε)) := ⟨_, ps_continue, fun F H σ ε D R q => q F H σ R (Same.refl F)⟩
/-- xs.append(e) -/
def mApp (i : Nat) (f : Mo D) : MoS := fun ε0 => match (ε0[i]?).bind Ent.get with
  | none => none
  | some _ => mThen f (fun d ε => match ε[i]? with
    | none => none
    | some e => match e.get with
      | none => none
      | some ps => if ps.length < 1000000 then some (.nx (ε.set i (e.put (ps ++ [d])))) else none) ε0
theorem st_app {i : Nat} (hp : ∀ te, PE X e te → PS X s (tDrop (tBM X.K "list" rAppend (tVar i) (tCons te tNil)))) (he : EvD X C W e f) : StD X C W s (mApp i f) := by
  obtain ⟨te, p, sd⟩ := he
  refine ⟨_, hp _ p, fun F H σ ε D R q => ?_⟩
  unfold mApp at q
  cases h0 : ε[i]? with
  | none => rw [h0] at q; exact q.elim
  | some e0 =>
    cases h1 : e0.get with
    | none => rw [h0] at q; simp only [Option.bind_some, h1] at q; exact q.elim
    | some p0 =>
      rw [h0] at q
      simp only [Option.bind_some, h1] at q
      obtain ⟨l, us0, a0, b0, _⟩ := R.at h0 h1
      refine ⟨.ref l, a0, .inl ⟨rfl, us0, .inl (.inl b0)⟩, ?_⟩
      refine sd F H σ ε _ R ((then_good q).imp (fun d e q1 v F1 H1 R1 st1 r1 => ?_) fun x e z => z)
      cases h2 : e[i]? with
      | none => rw [h2] at q1; exact q1.elim
      | some e1 =>
        rw [h2] at q1
        dsimp only at q1
        cases h3 : e1.get with
        | none => rw [h3] at q1; exact q1.elim
        | some ps =>
          rw [h3] at q1
          dsimp only at q1
          by_cases hz : ps.length < 1000000
          · rw [if_pos hz] at q1
            obtain ⟨l2, us, a, b, c, d', hm⟩ := R1.at h2 h3
            rw [a0] at a
            cases a
            obtain ⟨R2, st2⟩ := R1.callQ (F' := F1) (H' := upd H1 l (.lst (us ++ [v]))) (ps' := ps ++ [d]) h2 h3 a0 (Same.refl F1) (fun x o q => by
              rw [upd_ne (fun z => by rw [z, c] at q; cases q)]; exact R1.fh x o q) (fun x o q n => by rw [upd_ne n]; exact q) (fun _ _ => rfl) upd_same (d'.append (.cons r1 .nil))
            exact ⟨l, us, v, rfl, rfl, b, by rw [d'.length]; exact Nat.lt_of_lt_of_le hz (by decide), q1 F1 _ σ R2 st1.ff⟩
          · rw [if_neg hz] at q1; exact q1.elim
/-! ### for -/
def forGo (t : Tg) (body : MoS) : List D → MoS
  | [] => fun ε => some (.nx ε)
  | d :: r => fun ε => match t.parts d with
    | none => none
    | some ds => match body (setL ε t.is ds) with
      | some (.nx ε') => forGo t body r ε'
      | some (.ct ε') => forGo t body r ε'
      | some (.bk ε') => some (.nx ε')
      | r => r
def mFor (fi : Mo (List D)) (t : Tg) (body : MoS) : MoS := mThen fi fun ds => forGo t body ds
theorem st_for {iter : Expr} {body : List Stmt} {g : TG} {t : Tg} {fi : Mo (List D)} (hi : EiD X C W tg iter fi) (hb : SsD X C W body m) (sg : SdG X.K g t)
    (hp : ∀ wi tb, PI X tg iter wi → PSs X body tb → PS X s (tFor wi g tb)) : StD X C W s (mFor fi t m) := by
  obtain ⟨wi, p1, si⟩ := hi
  obtain ⟨tb, p2, sb⟩ := hb
  refine ⟨_, hp _ _ p1 p2, fun F H σ ε D R q => ?_⟩
  refine si F H σ ε _ R ((then_good q).imp (fun ds e q1 J F1 H1 R1 st1 it => ?_) fun x e z => z)
  have q1 := q1.mono st1.ff
  refine ⟨fun i k σ' H' => k = ds.length - i ∧ i ≤ ds.length ∧ ∃ F' ε', Rep X.K C F' H' σ' ε' ∧ Same F1 F' ∧ GoodS X.K C W F' D (forGo t m (ds.drop i) ε'), ⟨ds.length, by simp, Nat.zero_le _, F1, e, R1, Same.refl F1, by rw [List.drop_zero]; exact q1⟩, ?_⟩
  rintro i k σ2 H2 ⟨rfl, hi, F2, ε2, R2, s12, gs⟩
  by_cases hlt : i < ds.length
  · refine .inr ⟨it.go F2 H2 i s12 R2.fh hlt, _, fun σ' H' w => ⟨ds.length - (i + 1), by omega, rfl, by omega, w⟩, fun x H3 y => ?_⟩
    obtain ⟨d, F3, hd, st3, rd⟩ := it.yl F2 H2 i x H3 s12 R2.fh hlt y
    have R3 := R2.step st3
    have hds : ds.drop i = d :: ds.drop (i + 1) := by
      obtain ⟨hl, e2⟩ := List.getElem?_eq_some_iff.mp hd
      rw [List.drop_eq_getElem_cons hl, e2]
    rw [hds] at gs
    unfold forGo at gs
    cases hps : t.parts d with
    | none => rw [hps] at gs; exact gs.elim
    | some ps =>
      rw [hps] at gs
      dsimp only at gs
      refine sg F3 H3 σ2 x d ps _ R3.fh rd hps fun xs rx => ?_
      have R4 := R3.setL (is := t.is) rx
      have gs := gs.mono st3.ff
      refine sb F3 H3 _ (setL ε2 t.is ps) _ R4 ?_
      cases hb : m (setL ε2 t.is ps) with
      | none => rw [hb] at gs; exact gs.elim
      | some r =>
        rw [hb] at gs
        cases r with
        | nx e5 => exact fun F5 H5 σ5 R5 s5 => ⟨F5, e5, R5, (s12.trans st3.ff).trans s5, gs.mono s5⟩
        | ct e5 => exact fun F5 H5 σ5 R5 s5 => ⟨F5, e5, R5, (s12.trans st3.ff).trans s5, gs.mono s5⟩
        | bk e5 => exact gs
        | rt d5 e5 => exact gs
        | ro d5 e5 => exact gs
        | ex x5 e5 => exact gs
  · have e0 : i = ds.length := by omega
    subst e0
    rw [List.drop_length] at gs
    exact .inl ⟨it.st F2 H2 _ s12 R2.fh (Nat.le_refl _), gs F2 H2 σ2 R2 (Same.refl F2)⟩
/-! ### while, by fuel -/
def whGo (t : Mo Bool) (body : MoS) : Nat → MoS
  | 0 => fun _ => none
  | n + 1 => mThen t fun b => if b = true then (fun ε => match body ε with
      | some (.nx ε') => whGo t body n ε'
      | some (.ct ε') => whGo t body n ε'
      | some (.bk ε') => some (.nx ε')
      | r => r) else fun ε => some (.nx ε)
theorem st_while {c : Expr} {body : List Stmt} {t : Mo Bool} {fuel : Nat} (hc : TeD X C W c t) (hb : SsD X C W body m) (hp : ∀ tc tb, PT X c tc → PSs X body tb → PS X s (tWhile tc tb)) : StD X C W s (whGo t m fuel) := by
  obtain ⟨tc, p1, s1⟩ := hc
  obtain ⟨tb, p2, sb⟩ := hb
  refine ⟨_, hp _ _ p1 p2, fun F H σ ε D R q => ?_⟩
  refine ⟨fun k σ' H' => ∃ F' ε', Rep X.K C F' H' σ' ε' ∧ GoodS X.K C W F' D (whGo t m k ε'), ⟨fuel, F, ε, R, q⟩, ?_⟩
  rintro k σ2 H2 ⟨F2, ε2, R2, gs⟩
  cases k with
  | zero => exact gs.elim
  | succ k =>
    refine s1 F2 H2 σ2 ε2 _ R2 ((then_good gs).imp (fun b e q1 F3 H3 R3 st3 => ?_) fun x e z => z)
    cases b with
    | false =>
      refine iteF ?_
      exact q1 F3 H3 σ2 R3 st3.ff
    | true =>
      refine iteT ?_
      rw [if_pos rfl] at q1
      refine ⟨fun σ' H' => ∃ F' ε', Rep X.K C F' H' σ' ε' ∧ GoodS X.K C W F' D (whGo t m k ε'), fun σ' H' w => ⟨k, Nat.lt_succ_self k, w⟩, ?_⟩
      refine sb F3 H3 _ e _ R3 ?_
      have q1 := q1.mono st3.ff
      cases hb : m e with
      | none => rw [hb] at q1; exact q1.elim
      | some r =>
        rw [hb] at q1
        cases r with
        | nx e5 => exact fun F5 H5 σ5 R5 s5 => ⟨F5, e5, R5, q1.mono s5⟩
        | ct e5 => exact fun F5 H5 σ5 R5 s5 => ⟨F5, e5, R5, q1.mono s5⟩
        | bk e5 => exact q1
        | rt d5 e5 => exact q1
        | ro d5 e5 => exact q1
        | ex x5 e5 => exact q1
end
end DL

set_option Elab.async false
set_option linter.all false
set_option maxRecDepth 100000
namespace DL
open PySem PySem.Spec L2

/-! ### defs -/
def ansOf : Option ResS → Option Ans
  | some (.nx _) => some (.ret .non)
  | some (.rt d _) => some (.ret d)
  | some (.ex x _) => some (.exc x)
  | _ => none
def env0 (n : Nat) (ds : List D) : List Ent := ds.map .dat ++ List.replicate (n - ds.length) .un
def runP (n : Nat) (g : MoS) (ds : List D) : Option Ans := ansOf (g (env0 n ds))
theorem rep_start {K : PySem.W.Frag} {F H : Hp} {vs : List V} {ds : List D} {N : List Str} (s : Same F H) (r : RepL K F vs ds) : Rep K ⟨F, H, none, none⟩ F H (L2.start N vs) (env0 N.length ds) where
  fh := s
  ff := Same.refl F
  old := fun _ _ => rfl
  keep := fun _ _ h _ => h
  tr := fun _ h => h
  len := by
    unfold L2.start env0
    rw [List.length_append, List.length_append, List.length_map, List.length_map, List.length_replicate, List.length_replicate, r.length]
  ent := fun i e he => by
    unfold env0 at he
    unfold L2.start
    by_cases hi : i < ds.length
    · rw [List.getElem?_append_left (by rw [List.length_map]; exact hi), List.getElem?_map] at he
      rw [List.getElem?_append_left (by rw [List.length_map, r.length]; exact hi), List.getElem?_map]
      cases hd : ds[i]? with
      | none => rw [hd] at he; cases he
      | some d =>
        rw [hd] at he
        cases he
        obtain ⟨v, h1, h2⟩ := r.get hd
        exact ⟨v, by rw [h1]; rfl, h2⟩
    · rw [List.getElem?_append_right (by rw [List.length_map]; omega)] at he
      have := List.mem_of_getElem? he
      rw [List.eq_of_mem_replicate this]
      trivial
  dis := fun i j l e e' h1 h2 h3 h4 h5 h6 => by
    exfalso
    unfold env0 at h3
    have hm := List.mem_of_getElem? h3
    rcases List.mem_append.mp hm with h | h
    · obtain ⟨d, _, rfl⟩ := List.mem_map.mp h
      cases h5
    · rw [List.eq_of_mem_replicate h] at h5
      cases h5
section
variable {P : Program} {w : World} {K : PySem.W.Frag} {mg : Str → Option Value} {base : Heap}
abbrev CXX (P : Program) (w : World) : CXT := L2.CX P w
/-- a def without mutable arguments -/
theorem fn_P {x qual : Str} {st : Stmt} {f : Addr} {fd : FuncData} {N ps : List Str} {k : Nat} {g : MoS} {m : List D → Option Ans} (F : Fun K x qual st f fd) (S : FnScope N ps (defScope st))
    (hb : ∀ (cdv : Value) (A : Around) (outer : List Env) (s : Shared) (H : Hp) (E : XK) (C : Ct), C.A = none → Room k (A.deeper (PyProof.Rows.envOfC qual (defScope st) s.heap.objs.size f cdv)) → Takes (cxOf (L2.CX P w) P w K mg base N qual (defScope st) f cdv A outer s H E) (fun c d _ H' => E c d H') →
      SsD (cxOf (L2.CX P w) P w K mg base N qual (defScope st) f cdv A outer s H E) C (fun c d _ H' => E c d H') (defBody st) g)
    (hm : ∀ ds a, ds.length = ps.length → m ds = some a → runP N.length g ds = some a) : FnOk P w K mg base (CXX P w) (k + 1) f fd ps (SpP K ps.length m) := by
  refine F.okX S (fun vs H Q E h => h.1) (fun cdv A outer s H vs Q E hr h => ?_)
  obtain ⟨hl, F0, ds, sF, r, h⟩ := h
  obtain ⟨ts, p, sd⟩ := hb cdv A outer s H E ⟨F0, H, none, none⟩ rfl hr (takes_of rfl rfl rfl rfl)
  refine ⟨ts, p, sd F0 H _ (env0 N.length ds) _ (rep_start sF r) ?_⟩
  cases hmd : m ds with
  | none => rw [hmd] at h; exact h.elim
  | some a =>
    have ha := hm ds a (by rw [← r.length]; exact hl) hmd
    rw [hmd] at h
    have ste : ∀ {F' H' σ' ε'}, Rep K ⟨F0, H, none, none⟩ F' H' σ' ε' → Ste F0 H F' H' := fun R => ⟨R.ff, R.fh, R.old, fun b o e => R.keep b o e (by intro z; cases z)⟩
    unfold runP ansOf at ha
    cases hg : g (env0 N.length ds) with
    | none => rw [hg] at ha; cases ha
    | some r2 =>
      rw [hg] at ha
      cases r2 with
      | nx e => cases ha; exact fun F' H' σ' R s2 => h .non F' H' (ste R) .non
      | rt d e => cases ha; exact fun v F' H' σ' R s2 rv => h v F' H' (ste R) rv
      | ex x e => cases ha; exact fun c od F' H' σ' R s2 rx => h c od F' H' (ste R) rx
      | ro d e => cases ha
      | bk e => cases ha
      | ct e => cases ha
/-- a def that gives a new list -/
def SpO (K : PySem.W.Frag) (n : Nat) (m : List D → Option (List D)) : Sp := fun vs H Q E => vs.length = n ∧ ∃ F ds, Same F H ∧ RepL K F vs ds ∧ match m ds with
  | some es => ∀ l us F' H', Ste F H F' H' → H' l = some (.lst us) → F' l = none → RepL K F' us es → H l = none → Q (.ref l) H'
  | none => False
theorem fn_O {x qual : Str} {st : Stmt} {f : Addr} {fd : FuncData} {N ps : List Str} {k : Nat} {g : MoS} {m : List D → Option (List D)} (F : Fun K x qual st f fd) (S : FnScope N ps (defScope st))
    (hb : ∀ (cdv : Value) (A : Around) (outer : List Env) (s : Shared) (H : Hp) (E : XK) (C : Ct), C.A = none → Room k (A.deeper (PyProof.Rows.envOfC qual (defScope st) s.heap.objs.size f cdv)) → Takes (cxOf (L2.CX P w) P w K mg base N qual (defScope st) f cdv A outer s H E) (fun c d _ H' => E c d H') →
      SsD (cxOf (L2.CX P w) P w K mg base N qual (defScope st) f cdv A outer s H E) C (fun c d _ H' => E c d H') (defBody st) g)
    (hm : ∀ ds es, ds.length = ps.length → m ds = some es → ∃ ε, g (env0 N.length ds) = some (.ro es ε)) : FnOk P w K mg base (CXX P w) (k + 1) f fd ps (SpO K ps.length m) := by
  refine F.okX S (fun vs H Q E h => h.1) (fun cdv A outer s H vs Q E hr h => ?_)
  obtain ⟨hl, F0, ds, sF, r, h⟩ := h
  obtain ⟨ts, p, sd⟩ := hb cdv A outer s H E ⟨F0, H, none, none⟩ rfl hr (takes_of rfl rfl rfl rfl)
  refine ⟨ts, p, sd F0 H _ (env0 N.length ds) _ (rep_start sF r) ?_⟩
  cases hmd : m ds with
  | none => rw [hmd] at h; exact h.elim
  | some es =>
    obtain ⟨ε, hg⟩ := hm ds es (by rw [← r.length]; exact hl) hmd
    rw [hmd] at h
    rw [hg]
    exact fun l us F' H' σ' R s2 h1 h2 h3 h4 => h l us F' H' ⟨R.ff, R.fh, R.old, fun b o e => R.keep b o e (by intro z; cases z)⟩ h1 h2 h3 h4
/-- a def whose first argument is a list that it changes -/
def envQ (n : Nat) (ps ds : List D) : List Ent := .io ps :: (ds.map .dat ++ List.replicate (n - (ds.length + 1)) .un)
def outQ : Option ResS → Option (Ans × List D)
  | some (.nx (.io ps :: _)) => some (.ret .non, ps)
  | some (.rt d (.io ps :: _)) => some (.ret d, ps)
  | some (.ex x (.io ps :: _)) => some (.exc x, ps)
  | _ => none
theorem rep_startQ {K : PySem.W.Frag} {F H : Hp} {l : Addr} {us vs : List V} {ps ds : List D} {N : List Str} (s : Same F H) (h1 : H l = some (.lst us)) (h2 : F l = none) (h3 : RepL K F us ps) (r : RepL K F vs ds) :
    Rep K ⟨F, H, some l, none⟩ F H (L2.start N (.ref l :: vs)) (envQ N.length ps ds) where
  fh := s
  ff := Same.refl F
  old := fun _ _ => rfl
  keep := fun _ _ h _ => h
  tr := fun _ h => h
  len := by
    have := r.length
    simp only [L2.start, envQ, List.length_append, List.length_map, List.length_cons, List.length_replicate]
    omega
  ent := fun i e he => by
    unfold envQ at he
    unfold L2.start
    cases i with
    | zero =>
      cases he
      exact ⟨l, us, rfl, h1, h2, h3, rfl⟩
    | succ i =>
      rw [List.getElem?_cons_succ] at he
      rw [List.map_cons, List.cons_append, List.getElem?_cons_succ]
      by_cases hi : i < ds.length
      · rw [List.getElem?_append_left (by rw [List.length_map]; exact hi), List.getElem?_map] at he
        rw [List.getElem?_append_left (by rw [List.length_map, r.length]; exact hi), List.getElem?_map]
        cases hd : ds[i]? with
        | none => rw [hd] at he; cases he
        | some d =>
          rw [hd] at he
          cases he
          obtain ⟨v, h1, h2⟩ := r.get hd
          exact ⟨v, by rw [h1]; rfl, h2⟩
      · rw [List.getElem?_append_right (by rw [List.length_map]; omega)] at he
        have := List.mem_of_getElem? he
        rw [List.eq_of_mem_replicate this]
        trivial
  dis := fun i j m e e' k1 k2 k3 k4 k5 k6 => by
    have only : ∀ (i : Nat) (e : Ent), (envQ N.length ps ds)[i]? = some e → e.mut = true → i = 0 := fun i e he hm => by
      cases i with
      | zero => rfl
      | succ i =>
        exfalso
        unfold envQ at he
        rw [List.getElem?_cons_succ] at he
        have hm2 := List.mem_of_getElem? he
        rcases List.mem_append.mp hm2 with h | h
        · obtain ⟨d, _, rfl⟩ := List.mem_map.mp h
          cases hm
        · rw [List.eq_of_mem_replicate h] at hm
          cases hm
    rw [only i e k3 k5, only j e' k4 k6]
theorem fn_Q {x qual : Str} {st : Stmt} {f : Addr} {fd : FuncData} {N ps : List Str} {k : Nat} {g : MoS} {m : List D → List D → Option (Ans × List D)} (F : Fun K x qual st f fd) (S : FnScope N ps (defScope st))
    (hb : ∀ (cdv : Value) (A : Around) (outer : List Env) (s : Shared) (H : Hp) (E : XK) (C : Ct), Room k (A.deeper (PyProof.Rows.envOfC qual (defScope st) s.heap.objs.size f cdv)) → Takes (cxOf (L2.CX P w) P w K mg base N qual (defScope st) f cdv A outer s H E) (fun c d _ H' => E c d H') →
      SsD (cxOf (L2.CX P w) P w K mg base N qual (defScope st) f cdv A outer s H E) C (fun c d _ H' => E c d H') (defBody st) g)
    (hm : ∀ pl ds a, ds.length + 1 = ps.length → m pl ds = some a → outQ (g (envQ N.length pl ds)) = some a) : FnOk P w K mg base (CXX P w) (k + 1) f fd ps (SpQ K ps.length m) := by
  refine F.okX S (fun vs H Q E h => h.1) (fun cdv A outer s H vs Q E hr h => ?_)
  obtain ⟨hl, F0, l, us, ws, pl, ds, rfl, sF, h1, h2, h3, r, h⟩ := h
  obtain ⟨ts, p, sd⟩ := hb cdv A outer s H E ⟨F0, H, some l, none⟩ hr (takes_of rfl rfl rfl rfl)
  refine ⟨ts, p, sd F0 H _ (envQ N.length pl ds) _ (rep_startQ sF h1 h2 h3 r) ?_⟩
  cases hmd : m pl ds with
  | none => rw [hmd] at h; exact h.elim
  | some a =>
    have ha := hm pl ds a (by rw [← r.length]; exact hl) hmd
    rw [hmd] at h
    have io : ∀ {F' H' σ' ps' r'}, Rep K ⟨F0, H, some l, none⟩ F' H' σ' (.io ps' :: r') → (∀ b o, H b = some o → b ≠ l → H' b = some o) ∧ ∃ us', H' l = some (.lst us') ∧ RepL K F' us' ps' := fun {F' H' σ' ps' r'} R => by
      refine ⟨fun b o e n => R.keep b o e (fun z => n (Option.some.inj z).symm), ?_⟩
      obtain ⟨l2, us', _, b, _, d, e⟩ := R.ent 0 _ rfl
      cases e
      exact ⟨us', b, d⟩
    unfold outQ at ha
    cases hg : g (envQ N.length pl ds) with
    | none => rw [hg] at ha; cases ha
    | some r2 =>
      rw [hg] at ha
      cases r2 with
      | nx e =>
        cases e with
        | nil => cases ha
        | cons e0 er =>
          cases e0 with
          | io ps' =>
            cases ha
            intro F' H' σ' R s2
            obtain ⟨k1, us', k2, k3⟩ := io R
            exact h .non F' H' us' s2 R.fh k1 R.old k2 k3 .non
          | _ => cases ha
      | rt d e =>
        cases e with
        | nil => cases ha
        | cons e0 er =>
          cases e0 with
          | io ps' =>
            cases ha
            intro v F' H' σ' R s2 rv
            obtain ⟨k1, us', k2, k3⟩ := io R
            exact h v F' H' us' s2 R.fh k1 R.old k2 k3 rv
          | _ => cases ha
      | ex x e =>
        cases e with
        | nil => cases ha
        | cons e0 er =>
          cases e0 with
          | io ps' =>
            cases ha
            intro c od F' H' σ' R s2 rx
            obtain ⟨k1, us', k2, k3⟩ := io R
            exact h c od F' H' us' s2 R.fh k1 R.old k2 k3 rx
          | _ => cases ha
      | ro d e => cases ha
      | bk e => cases ha
      | ct e => cases ha
end
section
variable {X : Cx} {C : Ct} {W : WX} {e : Expr}
/-- a call that gives a new list -/
def mFnO (n : Nat) (m : List D → Option (List D)) (f : Mo (List D)) : Mo (List D) := bnd f fun ds => lft (if ds.length = n then m ds else none)
theorem eo_fn {n : Nat} {m : List D → Option (List D)} {es : List Expr} {fs : Mo (List D)} (ha : EaD X C W es fs) (hp : ∀ ta, PA X es ta → PE X e (tCallS (SpO X.K n m) (WE W) ta)) : EvO X C W e (mFnO n m fs) := by
  obtain ⟨ta, p1, s1⟩ := ha
  refine ⟨_, hp _ p1, fun F H σ ε Q R q => ?_⟩
  refine s1 F H σ ε _ R (q.bind.imp (fun ds e q1 vs F1 H1 R1 st1 r1 => ?_) fun x e z => z)
  unfold lft at q1
  by_cases hl : ds.length = n
  · rw [if_pos hl] at q1
    refine ⟨by rw [r1.length]; exact hl, F1, ds, R1.fh, r1, ?_⟩
    cases hm : m ds with
    | none => rw [hm] at q1; exact q1.elim
    | some es =>
      rw [hm] at q1
      intro l us F' H' st h1 h2 h3 h4
      obtain ⟨a1, a2, a3⟩ := R1.newApart h4
      refine q1 l us F' H' (R1.step st) (st1.trans st.stp) h1 h2 h3 a2 a3 ?_
      cases qq : H l with
      | none => rfl
      | some o => exact absurd h4 (st1.tr l (by rw [qq]; exact fun z => by cases z))
  · rw [if_neg hl] at q1; exact q1.elim
end
/-! ### the law itself: a list of ints comes in, True comes out -/
def SpLaw (K : PySem.W.Frag) : Sp := fun vs H Q _ => ∃ (a : Addr) (ns : List Int), vs = [.ref a] ∧ SqL K H a (ns.map V.int) ∧ ns.length ≤ 63 ∧ (∀ z ∈ ns, Builtin.Int.intBits z ≤ 1048576) ∧ ∀ H', Q (.bl true) H'
theorem fn_law {P : Program} {w : World} {K : PySem.W.Frag} {mg : Str → Option Value} {base : Heap} {x qual : Str} {st : Stmt} {f : Addr} {fd : FuncData} {N : List Str} {k : Nat} {g : MoS} {p : Str} (F : Fun K x qual st f fd) (S : FnScope N [p] (defScope st))
    (hb : ∀ (cdv : Value) (A : Around) (outer : List Env) (s : Shared) (H : Hp) (E : XK) (C : Ct), C.A = none → Room k (A.deeper (PyProof.Rows.envOfC qual (defScope st) s.heap.objs.size f cdv)) → Takes (cxOf (L2.CX P w) P w K mg base N qual (defScope st) f cdv A outer s H E) (fun c d _ H' => E c d H') →
      SsD (cxOf (L2.CX P w) P w K mg base N qual (defScope st) f cdv A outer s H E) C (fun c d _ H' => E c d H') (defBody st) g)
    (hm : ∀ ns : List Int, ns.length ≤ 63 → (∀ z ∈ ns, Builtin.Int.intBits z ≤ 1048576) → runP N.length g [.rdl (ns.map D.int)] = some (.ret (.bl true))) : FnOk P w K mg base (CXX P w) (k + 1) f fd [p] (SpLaw K) := by
  refine F.okX S (fun vs H Q E h => by obtain ⟨a, ns, rfl, _⟩ := h; rfl) (fun cdv A outer s H vs Q E hr h => ?_)
  obtain ⟨a, ns, rfl, hS, hl, hz, q⟩ := h
  obtain ⟨ts, p, sd⟩ := hb cdv A outer s H E ⟨H, H, none, none⟩ rfl hr (takes_of rfl rfl rfl rfl)
  refine ⟨ts, p, sd H H _ (env0 N.length [.rdl (ns.map D.int)]) _ (rep_start (Same.refl H) (.cons (.rdl hS (RepL.of_ints ns)) .nil)) ?_⟩
  have ha := hm ns hl hz
  unfold runP ansOf at ha
  cases hg : g (env0 N.length [.rdl (ns.map D.int)]) with
  | none => rw [hg] at ha; cases ha
  | some r2 =>
    rw [hg] at ha
    cases r2 with
    | nx e => cases ha
    | rt d e =>
      cases ha
      intro v F' H' σ' R s2 rv
      rw [rep_bl rv]
      exact q H'
    | ex x e => cases ha
    | ro d e => cases ha
    | bk e => cases ha
    | ct e => cases ha
section
variable {X : Cx} {C : Ct} {W : WX}
theorem cl_fn {k n : Nat} {f : Addr} {fd : FuncData} {ps : List Str} {m : List D → Option Ans} {x : Str} {p pos : Pos} {e : Expr} {es : List Expr} {fs : Mo (List D)} (F : FnOk X.prog X.w X.K X.mg X.base (L2.CX X.prog X.w) k f fd ps (SpP X.K n m)) (tk : Takes X W) (hr : Room k X.A) (hg : Gl X x) (hm : X.mg x = some (.ref f)) (hk : PySem.W.keepIn X.K (.ref f) = true) (hb : Binds X.K fd ps [])
    (ha : EaD X C W (e :: es) fs) (hdb : (x == ("__debug__" : Str)) = false := by decide) (he : starEach (e :: es) X.env = (false, eval e X.env) :: starEach es X.env := by rfl) (hpl : (backTo pos (starEach es X.env)).any (·.1) = false := by rfl) :
    EvD X C W (.Call (.Name x p) (e :: es) [] pos) (mFn n m fs) := ev_fn ha fun _ pa => pe_callS F hr hg hm hk hb (fun σ => passAt tk σ) pa hdb he hpl
theorem cl_fnO {k n : Nat} {f : Addr} {fd : FuncData} {ps : List Str} {m : List D → Option (List D)} {x : Str} {p pos : Pos} {e : Expr} {es : List Expr} {fs : Mo (List D)} (F : FnOk X.prog X.w X.K X.mg X.base (L2.CX X.prog X.w) k f fd ps (SpO X.K n m)) (tk : Takes X W) (hr : Room k X.A) (hg : Gl X x) (hm : X.mg x = some (.ref f)) (hk : PySem.W.keepIn X.K (.ref f) = true) (hb : Binds X.K fd ps [])
    (ha : EaD X C W (e :: es) fs) (hdb : (x == ("__debug__" : Str)) = false := by decide) (he : starEach (e :: es) X.env = (false, eval e X.env) :: starEach es X.env := by rfl) (hpl : (backTo pos (starEach es X.env)).any (·.1) = false := by rfl) :
    EvO X C W (.Call (.Name x p) (e :: es) [] pos) (mFnO n m fs) := eo_fn ha fun _ pa => pe_callS F hr hg hm hk hb (fun σ => passAt tk σ) pa hdb he hpl
theorem cl_fnQ {k n i : Nat} {f : Addr} {fd : FuncData} {ps : List Str} {m : List D → List D → Option (Ans × List D)} {x : Str} {p pos : Pos} {e : Expr} {es : List Expr} {fs : Mo (List D)} (F : FnOk X.prog X.w X.K X.mg X.base (L2.CX X.prog X.w) k f fd ps (SpQ X.K n m)) (tk : Takes X W) (hr : Room k X.A) (hg : Gl X x) (hm : X.mg x = some (.ref f)) (hk : PySem.W.keepIn X.K (.ref f) = true) (hb : Binds X.K fd ps [])
    (hn : PE X e (tVar i)) (ha : EaD X C W es fs) (hdb : (x == ("__debug__" : Str)) = false := by decide) (he : starEach (e :: es) X.env = (false, eval e X.env) :: starEach es X.env := by rfl) (hpl : (backTo pos (starEach es X.env)).any (·.1) = false := by rfl) :
    EvD X C W (.Call (.Name x p) (e :: es) [] pos) (mFnQ i n m fs) := ev_fnQ hn ha fun _ pa => pe_callS F hr hg hm hk hb (fun σ => passAt tk σ) (pa_cons hn pa he) hdb he hpl
end
end DL

set_option Elab.async false
set_option linter.all false
set_option maxRecDepth 100000
/-! list(reversed(xs)) over the model -/
namespace DLR
open PySem PySem.W PyProof.Rows RT
open Sem (wp)
section
variable {prog : Program} {w : World} {A : Around} {E : Value → Shared → Prop} {s : Shared}
theorem ext_rev {R : Result → Shared → Prop} {it l S : Addr} {items : Array Value} (hh : A.handled = none) (hit : s.heap.IsRevIter it l ((items.size : Int) - 1)) (hl : s.heap.IsList l items) (hne : l ≠ it) (hn : items.size ≤ sizeLine) (res : Value) (c0 : Nat)
    (hS : s.heap.get? S = some { cls := .type "list", data := .seq #[] c0 }) (hSi : S ≠ it) (hSl : S ≠ l)
    (hR : ∀ h' tk acc' c', (∀ b o, b ≠ S → b ≠ it → s.heap.get? b = some o → h'.get? b = some o) → h'.get? S = some { cls := .type "list", dict := none, data := .seq acc' c', slots := #[] } →
      ItemsOf (fun i v => items[items.size - 1 - i]? = some v) acc' items.size → R (.ok (.ret res)) { s with heap := h', toks := tk }) :
    wpAny (model prog w) A.in1 (Builtin.List.listExtendWith (.ref S) (.ref it) res)
      (fun fin s' => match fin with | .done f => R (.ok f) s' | .again c' => c'.quiet = true ∧ codeAny (model prog w) A c' R s') (fun e s' => R (.error e) s') s := by
  have Wk := (Walks.listRev (prog := prog) (w := w) (A := A.in1) hh it l hne items).toS
  have nf : S ∉ [it, l] := by
    intro hm
    rcases List.mem_cons.mp hm with e | e
    · exact hSi e
    · exact hSl (List.mem_singleton.mp e)
  have tyI : s.TypeIs (.ref it) "list_reverseiterator" := Heap.IsRevIter.typeIs hit
  have dif : Builtin.List.listSameRef (.ref S) (.ref it) = false := by simp [Builtin.List.listSameRef, hSi]
  unfold Builtin.List.listExtendWith
  refine wpAny_bind (wpAny_typeOf tyI ?_)
  rw [if_neg (show ¬ ((Builtin.List.listSameRef (.ref S) (.ref it) || Value.type "list_reverseiterator" == Value.type "list" || Value.type "list_reverseiterator" == Value.type "tuple") = true) from by rw [dif]; decide)]
  refine wpAny_bind (wpAny_pyIter_revIter hit (wpAny_bind (wpAny_holding ?_)))
  unfold Builtin.List.listLengthHint
  refine wpAny_bind (wpAny_specialOf tyI nolen_lri (show wpAny _ A.in1 (specialOf (Value.ref it) (Str.ofString "__length_hint__") >>= _) _ _ _ from wpAny_bind (wpAny_specialOf tyI hint_lri ?_)))
  generalize hid : ("list_reverseiterator.__length_hint__" : String) = id1
  wp_delta
  rw [show splitId id1 = some ("list_reverseiterator", "__length_hint__") from by rw [← hid]; decide +kernel]
  subst hid
  refine wpAny_bind (wpAny_isInstance (b := true) tyI (by rw [isSubtype_type]; kernel_rfl) (wpAny_pure ?_))
  rw [if_neg (by decide)]
  have z0 : ((items.size : Nat) : Int) - 1 - ((0 : Nat) : Int) = (items.size : Int) - 1 := by omega
  refine wpAny_pure ⟨plainId_quiet F.plain_extend_loop _, codeAny_extend_loopS Wk hn _ nf _ items.size 0 _ _ _ rfl (Nat.zero_le _) ⟨Nat.zero_le _, (by rw [z0]; exact hit), hl⟩ hS (ItemsOf.nil _) fun s2 acc c mv k1 k2 => ?_⟩
  rw [Moved.eq_with mv]
  refine hR s2.heap s2.toks acc c (fun b ob nS nI e => mv.heap b ob (fun hm => ?_) e) k1 k2
  rcases List.mem_cons.mp hm with e' | hm
  · exact nS e'
  · exact nI (List.mem_singleton.mp hm)
theorem call_list_rev {it l : Addr} {items : Array Value} {Q : Value → Shared → Prop} (hh : A.handled = none) (hit : s.heap.IsRevIter it l ((items.size : Int) - 1)) (hl : s.heap.IsList l items) (hne : l ≠ it) (hn : items.size ≤ sizeLine)
    (hQ : ∀ h' tk acc c, (∀ b o, b ≠ it → s.heap.get? b = some o → h'.get? b = some o) → h'.get? s.heap.objs.size = some { cls := .type "list", dict := none, data := .seq acc c, slots := #[] } →
      ItemsOf (fun i v => items[items.size - 1 - i]? = some v) acc items.size → Q (.ref s.heap.objs.size) { s with heap := h', toks := tk }) :
    wpAny (model prog w) A (call (.type "list") [.ref it]) Q E s := by
  obtain ⟨oi, hoi, _⟩ := id hit
  obtain ⟨ol, hol, _⟩ := id hl
  refine callType_codes (Q₁ := fun obj s₁ => obj = .ref s.heap.objs.size ∧ s₁ = { s with heap := s.heap.push { cls := .type "list", data := .seq #[] } }) PySem.F.called_list (PySem.F.typeCall_list_1 _) PySem.F.entry_list_init (code_list_new _ ⟨rfl, rfl⟩) fun obj s₁ h₁ => ?_
  obtain ⟨rfl, rfl⟩ := h₁
  have g0 : (s.heap.push { cls := .type "list", data := .seq #[] }).get? s.heap.objs.size = some { cls := .type "list", data := .seq #[] } := Heap.get?_push_size _ rfl
  refine ⟨⟨_, g0, rfl⟩, PySem.F.args_list_init_2 _ _, ?_⟩
  show wpAny _ _ (do let old ← Builtin.List.listItems (.ref s.heap.objs.size); Builtin.List.listUpdate (.ref s.heap.objs.size) (fun _ => #[]); letGo old.toList.reverse; Builtin.List.listExtendWith (.ref s.heap.objs.size) (.ref it) .none) _ _ _
  refine wpAny_bind ?_
  unfold Builtin.List.listItems
  refine wpAny_bind (wpAny_seqItems g0 rfl (wpAny_pure ?_))
  show wpAny _ _ (updateSeq s.heap.objs.size (fun _ => #[]) >>= fun _ => letGo (#[] : Array Value).toList.reverse >>= fun _ => Builtin.List.listExtendWith (.ref s.heap.objs.size) (.ref it) .none) _ _ _
  refine wpAny_bind (wpAny_updateSeq g0 rfl ?_)
  have g1 := Heap.get?_update_self (Obj.mapSeq (fun _ => (#[] : Array Value))) g0 rfl
  have oth : ∀ b o, s.heap.get? b = some o → ((s.heap.push { cls := .type "list", data := .seq #[] }).update s.heap.objs.size (Obj.mapSeq (fun _ => (#[] : Array Value)))).get? b = some o := fun b o e =>
    (Heap.get?_update_other _ _ (Nat.ne_of_gt (Heap.lt_size e))).trans (Heap.get?_push_of_some _ e)
  refine wpAny_bind (wpAny_letGo ?_)
  refine ext_rev (A := A.in1) hh (hit.at fun o e => oth _ o e) (let ⟨o, h1, h2⟩ := hl; ⟨o, oth _ _ h1, h2⟩) hne hn .none _ g1 (Nat.ne_of_gt (Heap.lt_size hoi)) (Nat.ne_of_gt (Heap.lt_size hol)) fun h' tk acc c hk hS' hacc => ?_
  exact ⟨rfl, hQ h' tk acc c (fun b o hb e => hk b o (Nat.ne_of_lt (Heap.lt_size e)) hb (oth b o e)) hS' hacc⟩
end
section
open L2
variable {X : Cx}
def tLstRev (K : PySem.W.Frag) (te : TE) : TE := fun σ H Q => te σ H fun v H1 => ∃ (a : Addr) (xs : List V), v = .ref a ∧ SqL K H1 a xs ∧ ∀ q, H1 q = none → Q (.ref q) (upd H1 q (.lst xs.reverse))
theorem pe_listrev {e : Expr} {te : TE} {p p2 pos pos2 : Pos} (hc : X.calm = true) (hg : Gl X "list") (hm : X.mg "list" = none) (hg2 : Gl X "reversed") (hm2 : X.mg "reversed" = none) (he : PE X e te)
    (na : starEach [e] X.env = (false, eval e X.env) :: starEach [] X.env := by rfl)
    (nb : starEach [.Call (.Name "reversed" p2) [e] [] pos2] X.env = (false, eval (.Call (.Name "reversed" p2) [e] [] pos2) X.env) :: starEach [] X.env := by rfl) :
    PE X (.Call (.Name "list" p) [.Call (.Name "reversed" p2) [e] [] pos2] [] pos) (tLstRev X.K te) := by
  refine ⟨fun pins s σ H Q I h => Call_ (ld_blt I hg hm boot_list (PyProof.Rows.callWith_type1 (args_cons (Call_ (ld_blt I hg2 hm2 PyProof.Rows.boot_reversed (PyProof.Rows.callWith_type1 (args_cons (thn (he.run pins s σ H _ I h) fun u s1 ⟨v, H1, I1, r1, q1⟩ => args_nil ?_) na) na rfl))) nb) nb rfl))⟩
  obtain ⟨a, xs, rfl, hq, q⟩ := q1
  obtain rfl : u = Value.ref a := r1
  obtain ⟨its, rv, p', hz⟩ := I1.list hq
  have hl := p'.isList
  obtain ⟨ol, hol, _⟩ := id hl
  refine call_reversed_list hl (args_nil ?_)
  have J : Inv X pins σ H1 { s1 with heap := s1.heap.push (revObj a ((its.toArray.size : Int) - 1)) } := I1.kept (t' := s1.toks) fun b o e => Heap.get?_push_of_some _ e
  have fp : FpOk X pins H1 s1.heap.objs.size := I1.fpOk (H' := H1) (Nat.le_refl _) (I1.hok.fresh (Nat.le_refl _))
  have big : its.toArray.size ≤ sizeLine := by rw [List.size_toArray, ← rv.length]; exact hz
  refine call_list_rev (s := { s1 with heap := s1.heap.push (revObj a ((its.toArray.size : Int) - 1)) }) (I1.ok.hd hc) ⟨_, Heap.get?_push_size _ rfl, rfl, rfl⟩ (hl.push _) (Nat.ne_of_lt (Heap.lt_size hol)) big fun h' tk acc c' hk e' hi => ?_
  refine ⟨.ref _, _, J.turnedNew (t' := tk) (ch := [s1.heap.objs.size]) (T := (s1.heap.push (revObj a ((its.toArray.size : Int) - 1))).objs.size) (ob := .lst xs.reverse) (fun b o hb e => hk b o (fun z => hb (by simp [z])) e) (fun b hb => by
      rw [List.mem_singleton.mp hb]; exact fp) (Nat.le_refl _) ⟨by rw [List.length_reverse]; exact hz, acc.toList, c', vals_rev rv hi, ?_⟩, rfl, q _ (J.hok.fresh (Nat.le_refl _))⟩
  rw [Array.toArray_toList]
  exact e'
end
end DLR
namespace DL
open PySem PySem.Spec L2
section
variable {X : Cx} {C : Ct} {W : WX} {a b e : Expr} {f g : Mo D}
def mListRev (f : Mo D) : Mo (List D) := bnd f fun d => lft ((lstOf d).map List.reverse)
theorem eo_listrev (ha : EvD X C W a f) (hp : ∀ te, PE X a te → PE X e (DLR.tLstRev X.K te)) : EvO X C W e (mListRev f) := by
  obtain ⟨te, p1, s1⟩ := ha
  refine ⟨_, hp _ p1, fun F H σ ε Q R q => ?_⟩
  refine s1 F H σ ε _ R (q.bind.imp (fun d e q1 v F1 H1 R1 st1 r1 => ?_) fun x e z => z)
  cases d with
  | lst ds =>
    obtain ⟨p, xs, rfl, h, r⟩ := rep_seqs r1
    exact ⟨p, xs, rfl, Same.seq R1.fh h, fun l hl => ok_new R R1 st1 r.reverse q1 hl⟩
  | rdl ds =>
    obtain ⟨p, xs, rfl, h, r⟩ := rep_rdl r1
    exact ⟨p, xs, rfl, Same.seq R1.fh h, fun l hl => ok_new R R1 st1 r.reverse q1 hl⟩
  | _ => exact q1.elim
/-! an item of a list of one's own, the list left as it is -/
def mItemN (i : Nat) (g : Mo D) : Mo D := fun ε0 => match (ε0[i]?).bind Ent.get with
  | none => none
  | some _ => bnd g (fun k ε => match (ε[i]?).bind Ent.get with
    | none => none
    | some ps => match k with
      | .int j => (match atI ps j with
        | some d => some (.ok d ε)
        | none => none)
      | _ => none) ε0
theorem ev_itemN (i : Nat) (hm : PlainIx b) (hb : EvD X C W b g) (hp : ∀ (ta : TE) tb, PE X b tb → PE X e (tOp (rIx X.K) (tVar i) tb)) : EvD X C W e (mItemN i g) := by
  obtain ⟨tb, p2, s2⟩ := hb
  refine ⟨_, hp tb _ p2, fun F H σ ε Q R q => ?_⟩
  unfold mItemN at q
  cases h0 : ε[i]? with
  | none => rw [h0] at q; exact q.elim
  | some e0 =>
    rw [h0] at q
    simp only [Option.bind_some] at q
    cases h1 : e0.get with
    | none => rw [h1] at q; exact q.elim
    | some p0 =>
      rw [h1] at q
      obtain ⟨l, us0, a0, b0, _⟩ := R.at h0 h1
      refine ⟨.ref l, a0, ?_⟩
      refine s2 F H σ ε _ R (q.bind.imp (fun d e q1 v F1 H1 R1 st1 r1 => ?_) fun x e z => z)
      cases h2 : e[i]? with
      | none => rw [h2] at q1; exact q1.elim
      | some e1 =>
        rw [h2] at q1
        simp only [Option.bind_some] at q1
        cases h3 : e1.get with
        | none => rw [h3] at q1; exact q1.elim
        | some ps =>
          rw [h3] at q1
          cases d with
          | int j =>
            dsimp only at q1
            cases h4 : atI ps j with
            | none => rw [h4] at q1; exact q1.elim
            | some y =>
              rw [h4] at q1
              obtain ⟨l2, us, a, b, c, d', hm⟩ := R1.at h2 h3
              rw [a0] at a
              cases a
              obtain ⟨w, g1, g2⟩ := atI_rep d' h4
              exact .inl ⟨l, us, j, w, rfl, rep_int r1, .inl (.inl b), g1, q1 w F1 H1 R1 st1 g2⟩
          | _ => exact q1.elim
/-! xs[i] = v of a list of one's own -/
def mPut (i : Nat) (fv fk : Mo D) : MoS := mThen fv fun d ε1 => match (ε1[i]?).bind Ent.get with
  | none => none
  | some _ => mThen fk (fun k ε => match ε[i]? with
    | none => none
    | some e => match e.get with
      | none => none
      | some ps => match k with
        | .int j => (match ixN ps.length j with
          | some n => some (.nx (ε.set i (e.put (ps.set n d))))
          | none => none)
        | _ => none) ε1
theorem st_put {i : Nat} {s : Stmt} {v k : Expr} (hp : ∀ te tk, PE X v te → PE X k tk → PS X s (tAsg te (L2.gSub (tVar i) tk rSetL))) (hv : EvD X C W v f) (hk : EvD X C W k g) : StD X C W s (mPut i f g) := by
  obtain ⟨te, p1, s1⟩ := hv
  obtain ⟨tk, p2, s2⟩ := hk
  refine ⟨_, hp _ _ p1 p2, fun F H σ ε D R q => ?_⟩
  refine s1 F H σ ε _ R ((then_good q).imp (fun d e q1 v F1 H1 R1 st1 r1 => ?_) fun x e z => z)
  cases h0 : e[i]? with
  | none => rw [h0] at q1; exact q1.elim
  | some e0 =>
    rw [h0] at q1
    simp only [Option.bind_some] at q1
    cases h1 : e0.get with
    | none => rw [h1] at q1; exact q1.elim
    | some p0 =>
      rw [h1] at q1
      obtain ⟨l, us0, a0, b0, _⟩ := R1.at h0 h1
      refine ⟨.ref l, a0, ?_⟩
      refine s2 F1 H1 σ e _ R1 ((then_good (q1.mono st1.ff)).imp (fun kd e2 q2 w F2 H2 R2 st2 r2 => ?_) fun x e z => z)
      cases h2 : e2[i]? with
      | none => rw [h2] at q2; exact q2.elim
      | some e1 =>
        rw [h2] at q2
        dsimp only at q2
        cases h3 : e1.get with
        | none => rw [h3] at q2; exact q2.elim
        | some ps =>
          rw [h3] at q2
          cases kd with
          | int j =>
            dsimp only at q2
            cases h4 : ixN ps.length j with
            | none => rw [h4] at q2; exact q2.elim
            | some n =>
              rw [h4] at q2
              obtain ⟨l2, us, a, b, c, d', hm⟩ := R2.at h2 h3
              rw [a0] at a
              cases a
              obtain ⟨R3, st3⟩ := R2.callQ (F' := F2) (H' := upd H2 l (.lst (us.set n v))) (ps' := ps.set n d) h2 h3 a0 (Same.refl F2) (fun x o q => by
                rw [upd_ne (fun z => by rw [z, c] at q; cases q)]; exact R2.fh x o q) (fun x o q n => by rw [upd_ne n]; exact q) (fun _ _ => rfl) upd_same (d'.set (r1.mono st2.ff) n)
              exact ⟨l, us, j, n, rfl, rep_int r2, b, by rw [d'.length]; exact h4, q2 F2 _ σ R3 st2.ff⟩
          | _ => exact q2.elim
/-! return of a name that holds a list of one's own, as one's own -/
def mRetOwn (i : Nat) : MoS := fun ε => match ε[i]? with
  | some (.own ds) => some (.ro ds ε)
  | _ => none
theorem st_retOwn {e : Expr} {pos : Pos} (i : Nat) (hp : PE X e (tVar i)) : StD X C W (.Return (some e) pos) (mRetOwn i) := by
  refine ⟨_, ps_ret hp, fun F H σ ε D R q => ?_⟩
  unfold mRetOwn at q
  cases h0 : ε[i]? with
  | none => rw [h0] at q; exact q.elim
  | some e0 =>
    rw [h0] at q
    cases e0 with
    | own ds =>
      obtain ⟨l, us, a, b, c, d, g⟩ := R.ent i _ h0
      exact ⟨.ref l, a, q l us F H σ R (Same.refl F) b c d g⟩
    | _ => exact q.elim
def mRetN : MoS := fun ε => some (.rt .non ε)
theorem st_retN {pos : Pos} : StD X C W (.Return none pos) mRetN := ⟨_, ps_retN, fun F H σ ε D R q => q .non F H σ R (Same.refl F) .non⟩
/-! x += e of ints -/
def mAug (g : D → D → Option D) (i : Nat) (f : Mo D) : MoS := fun ε => match ε[i]? with
  | some (.dat x) => mThen f (fun y ε' => match g x y with
    | some z => some (.nx (ε'.set i (.dat z)))
    | none => none) ε
  | _ => none
theorem st_augAdd {i : Nat} {s : Stmt} {v : Expr} (hp : ∀ te, PE X v te → PS X s (tAug i te (ipI fun a b => a + b))) (hv : EvD X C W v f) : StD X C W s (mAug gAdd i f) := by
  obtain ⟨te, p1, s1⟩ := hv
  refine ⟨_, hp _ p1, fun F H σ ε D R q => ?_⟩
  unfold mAug at q
  cases h0 : ε[i]? with
  | none => rw [h0] at q; exact q.elim
  | some e0 =>
    rw [h0] at q
    cases e0 with
    | dat x =>
      obtain ⟨xv, a, rx⟩ := R.ent i _ h0
      refine ⟨xv, a, ?_⟩
      refine s1 F H σ ε _ R ((then_good q).imp (fun d e q1 v F1 H1 R1 st1 r1 => ?_) fun x e z => z)
      cases hg : gAdd x d with
      | none => rw [hg] at q1; exact q1.elim
      | some z =>
        rw [hg] at q1
        obtain ⟨i1, j1, rfl, rfl, _, rfl⟩ := gI_of hg
        exact ⟨i1, j1, rep_int rx, rep_int r1, q1 F1 H1 _ (R1.set i (.int _)) st1.ff⟩
    | _ => exact q.elim
/-! the truth of a list, a tuple -/
def gTruth : D → Option Bool
  | .lst ds => some (!ds.isEmpty)
  | .rdl ds => some (!ds.isEmpty)
  | .tup ds => some (!ds.isEmpty)
  | _ => none
theorem empt {K : PySem.W.Frag} {F : Hp} {xs : List V} {ds : List D} (r : RepL K F xs ds) : xs.isEmpty = ds.isEmpty := by
  cases r <;> rfl
/-! sequences by what they are -/
def gMaxT (d : D) : Option D := match d with
  | .tup ds => (intsOf ds).bind fun ns => if 0 < ns.length then some (.int (maxI ns)) else none
  | _ => none
def gMinT (d : D) : Option D := match d with
  | .tup ds => (intsOf ds).bind fun ns => if 0 < ns.length then some (.int (minI ns)) else none
  | _ => none
theorem ei_str {tg : Expr} (he : EvD X C W e f) : EiD X C W tg e (bnd f fun d => lft (match d with
    | .str x => some (x.cps.toList.map fun c => D.str ⟨#[c]⟩)
    | _ => none)) := by
  obtain ⟨te, p1, s1⟩ := he
  refine ⟨_, pi_str p1, fun F H σ ε R R0 q => ?_⟩
  refine s1 F H σ ε _ R0 (q.bind.imp (fun d e q1 v F1 H1 R1 st1 r1 => ?_) fun x e z => z)
  cases d with
  | str x =>
    refine ⟨x, rep_str r1, q1 _ F1 H1 R1 st1 ⟨fun F' H' i _ _ hi => ?_, fun F' H' i y H2 _ s2 hi ⟨e, c, h1, h2⟩ => ?_, fun F' H' i _ _ hi => ?_⟩⟩
    · rw [List.length_map] at hi
      show i < x.cps.size
      simpa using hi
    · subst e h2
      refine ⟨.str ⟨#[c]⟩, F', ?_, Ste.refl s2, .str _⟩
      rw [List.getElem?_map, Array.getElem?_toList, h1]; rfl
    · rw [List.length_map] at hi
      show x.cps.size ≤ i
      simpa using hi
  | _ => exact q1.elim
end
end DL

set_option Elab.async false
set_option linter.all false
set_option maxRecDepth 100000
/-! max and min of a tuple of ints -/
namespace DLM
open PySem PySem.W PyProof.Rows L2
section
variable {prog : Program} {w : World} {A : Around} {E : Value → Shared → Prop} {s : Shared} {t : Addr} {its : List Value} {ns : List Int} {Q : Value → Shared → Prop}
theorem maxT_raw (hh : A.handled = none) (ht : s.heap.IsTuple t its.toArray) (hi : IntsAre its ns) (hne : 0 < ns.length)
    (q : ∀ h' tk M u, (∀ b o, s.heap.get? b = some o → h'.get? b = some o) → M ∈ ns → (∀ a, a ∈ ns → a ≤ M) → Q (.int M u) { s with heap := h', toks := tk }) : wpAny (model prog w) A (call (.builtin "max") [.ref t]) Q E s := by
  obtain ⟨xs, e⟩ := hi.allInts.items
  have en : numsOf (intItems xs).toList = ns := by rw [← e]; exact hi.numsOf
  rw [nums_intItems] at en
  subst en
  rw [e] at ht
  have pos : 0 < xs.size := by simpa using hne
  obtain ⟨ot, hot, _⟩ := id ht
  refine call_max_walk (wpAny_pyIter_tuple ht ?_)
  refine ⟨_, [_, t], [_], _, _, _, _, rfl, Walks.tuple (A := A.in1) hh _ t (Nat.ne_of_lt (Heap.lt_size hot)) (intItems xs), ⟨⟨_, Heap.get?_push_size _ rfl, rfl, rfl⟩, (let ⟨o, a, b⟩ := ht; ⟨o, Heap.get?_push_of_some _ a, b⟩)⟩, fun c hc => ?_, by simpa [intItems] using pos, CmpOf.ints_gt (numAt xs) (fun _ _ => intItems_at), fun v h' tk hP hk => ?_⟩
  · rw [Heap.size_push]
    rcases List.mem_cons.mp hc with z | z
    · rw [z]; exact Nat.lt_succ_self _
    · rw [List.mem_singleton.mp z]; exact Nat.lt_succ_of_lt (Heap.lt_size hot)
  · have hv : (intItems xs)[argBest (fun i j => decide (numAt xs i > numAt xs j)) (xs.size - 1)]? = some v := by simpa [intItems] using hP
    obtain ⟨u, rfl⟩ := intItems_at hv
    obtain ⟨b1, b2⟩ := argBest_gt (numAt xs) (xs.size - 1)
    refine q h' tk _ u (fun b o z => hk b o (fun hm => ?_) (Heap.get?_push_of_some _ z)) ?_ fun a ha => ?_
    · rw [List.mem_singleton.mp hm] at z; exact absurd (Heap.lt_size z) (Nat.lt_irrefl _)
    · rw [numAt_eq]; exact PySem.getD_mem (by rw [List.length_map, Array.length_toList]; omega)
    · obtain ⟨j, hj, rfl⟩ := mem_getD ha
      rw [List.length_map, Array.length_toList] at hj
      rw [← numAt_eq]; exact b2 j (by omega)
theorem minT_raw (hh : A.handled = none) (ht : s.heap.IsTuple t its.toArray) (hi : IntsAre its ns) (hne : 0 < ns.length)
    (q : ∀ h' tk M u, (∀ b o, s.heap.get? b = some o → h'.get? b = some o) → M ∈ ns → (∀ a, a ∈ ns → M ≤ a) → Q (.int M u) { s with heap := h', toks := tk }) : wpAny (model prog w) A (call (.builtin "min") [.ref t]) Q E s := by
  obtain ⟨xs, e⟩ := hi.allInts.items
  have en : numsOf (intItems xs).toList = ns := by rw [← e]; exact hi.numsOf
  rw [nums_intItems] at en
  subst en
  rw [e] at ht
  have pos : 0 < xs.size := by simpa using hne
  obtain ⟨ot, hot, _⟩ := id ht
  refine call_min_walk (wpAny_pyIter_tuple ht ?_)
  refine ⟨_, [_, t], [_], _, _, _, _, rfl, Walks.tuple (A := A.in1) hh _ t (Nat.ne_of_lt (Heap.lt_size hot)) (intItems xs), ⟨⟨_, Heap.get?_push_size _ rfl, rfl, rfl⟩, (let ⟨o, a, b⟩ := ht; ⟨o, Heap.get?_push_of_some _ a, b⟩)⟩, fun c hc => ?_, by simpa [intItems] using pos, CmpOf.ints_lt (numAt xs) (fun _ _ => intItems_at), fun v h' tk hP hk => ?_⟩
  · rw [Heap.size_push]
    rcases List.mem_cons.mp hc with z | z
    · rw [z]; exact Nat.lt_succ_self _
    · rw [List.mem_singleton.mp z]; exact Nat.lt_succ_of_lt (Heap.lt_size hot)
  · have hv : (intItems xs)[argBest (fun i j => decide (numAt xs i < numAt xs j)) (xs.size - 1)]? = some v := by simpa [intItems] using hP
    obtain ⟨u, rfl⟩ := intItems_at hv
    obtain ⟨b1, b2⟩ := argBest_lt (numAt xs) (xs.size - 1)
    refine q h' tk _ u (fun b o z => hk b o (fun hm => ?_) (Heap.get?_push_of_some _ z)) ?_ fun a ha => ?_
    · rw [List.mem_singleton.mp hm] at z; exact absurd (Heap.lt_size z) (Nat.lt_irrefl _)
    · rw [numAt_eq]; exact PySem.getD_mem (by rw [List.length_map, Array.length_toList]; omega)
    · obtain ⟨j, hj, rfl⟩ := mem_getD ha
      rw [List.length_map, Array.length_toList] at hj
      rw [← numAt_eq]; exact b2 j (by omega)
end
section
variable {X : Cx}
def rMaxT (K : PySem.W.Frag) : List V → Hp → VK → Prop := fun vs H Q => ∃ (a : Addr) (ns : List Int), vs = [V.ref a] ∧ SqT K H a (ns.map V.int) ∧ 0 < ns.length ∧ ∀ m, m ∈ ns → (∀ y, y ∈ ns → y ≤ m) → Q (.int m) H
def rMinT (K : PySem.W.Frag) : List V → Hp → VK → Prop := fun vs H Q => ∃ (a : Addr) (ns : List Int), vs = [V.ref a] ∧ SqT K H a (ns.map V.int) ∧ 0 < ns.length ∧ ∀ m, m ∈ ns → (∀ y, y ∈ ns → m ≤ y) → Q (.int m) H
theorem cr_maxT (hc : X.calm = true) : CallR X (.builtin "max") (rMaxT X.K) := by
  intro pins s σ H vs us Q I r ⟨a, ns, e, hs, hne, q⟩
  subst e
  obtain ⟨its, rv, ht, _⟩ := I.tuple hs
  rw [Vals.ref1 r]
  exact maxT_raw (I.ok.hd hc) ht rv.ints hne fun h' tk m u hk h1 h2 => ⟨.int _, H, I.kept hk, ⟨_, rfl⟩, q m h1 h2⟩
theorem cr_minT (hc : X.calm = true) : CallR X (.builtin "min") (rMinT X.K) := by
  intro pins s σ H vs us Q I r ⟨a, ns, e, hs, hne, q⟩
  subst e
  obtain ⟨its, rv, ht, _⟩ := I.tuple hs
  rw [Vals.ref1 r]
  exact minT_raw (I.ok.hd hc) ht rv.ints hne fun h' tk m u hk h1 h2 => ⟨.int _, H, I.kept hk, ⟨_, rfl⟩, q m h1 h2⟩
end
end DLM
namespace DL
open PySem PySem.Spec L2 DLM
section
variable {K : PySem.W.Frag}
theorem vc_maxT : VCall K (rMaxT K) (gOne gMaxT) := by
  intro F H xs ds c Q s r hg q
  obtain ⟨x, d, rfl, rfl, rd, hd⟩ := one_of r hg
  unfold gMaxT at hd
  split at hd
  · simp only [Option.bind_eq_some_iff] at hd
    obtain ⟨ns, e1, e2⟩ := hd
    split at e2
    · rename_i h0
      cases e2
      obtain ⟨a, xs, rfl, h, r2⟩ := rep_tup rd
      have := ints_eq e1
      subst this
      rw [RepL.ints r2] at h
      refine ⟨a, ns, rfl, seqT s h, h0, fun m h1 h2 => ?_⟩
      have sp := maxI_spec ns (by intro z; rw [z] at h0; simp at h0)
      have e : m = maxI ns := Int.le_antisymm (sp.2 m h1) (h2 _ sp.1)
      subst e
      exact q _ F H (Ste.refl s) (.int _)
    · cases e2
  · cases hd
theorem vc_minT : VCall K (rMinT K) (gOne gMinT) := by
  intro F H xs ds c Q s r hg q
  obtain ⟨x, d, rfl, rfl, rd, hd⟩ := one_of r hg
  unfold gMinT at hd
  split at hd
  · simp only [Option.bind_eq_some_iff] at hd
    obtain ⟨ns, e1, e2⟩ := hd
    split at e2
    · rename_i h0
      cases e2
      obtain ⟨a, xs, rfl, h, r2⟩ := rep_tup rd
      have := ints_eq e1
      subst this
      rw [RepL.ints r2] at h
      refine ⟨a, ns, rfl, seqT s h, h0, fun m h1 h2 => ?_⟩
      have sp := minI_spec ns (by intro z; rw [z] at h0; simp at h0)
      have e : m = minI ns := Int.le_antisymm (h2 _ sp.1) (sp.2 m h1)
      subst e
      exact q _ F H (Ste.refl s) (.int _)
    · cases e2
  · cases hd
end
end DL

set_option Elab.async false
set_option linter.all false
set_option maxRecDepth 100000
namespace DL
open PySem PySem.Spec L2
section
variable {X : Cx} {C : Ct} {W : WX} {a b e : Expr} {f g : Mo D} {pos : Pos}
/-! ### a dict's display, whose contents are not told -/
inductive RepPs (K : PySem.W.Frag) (F : Hp) : List (V × V) → List (D × D) → Prop
  | nil : RepPs K F [] []
  | cons {x y : V} {d e : D} {ps : List (V × V)} {qs : List (D × D)} : RepD K F x d → RepD K F y e → RepPs K F ps qs → RepPs K F ((x, y) :: ps) ((d, e) :: qs)
def EpD (X : Cx) (C : Ct) (W : WX) (pos : Pos) (keys : List (Option Expr)) (vals : List Expr) (f : Mo (List (D × D))) : Prop := ∃ trs, PPs X pos keys vals trs ∧ ∀ F H σ ε Q, Rep X.K C F H σ ε →
  Good (f ε) (fun qs ε' => ∀ ps F' H', Rep X.K C F' H' σ ε' → Stp σ ε ε' F H F' H' → RepPs X.K F' ps qs → Q ps H') (ExP X.K C W F H σ ε) → tPairs trs σ H Q
theorem ep_nil : EpD X C W pos [] [] (pur []) := ⟨_, pps_nil, fun F H σ ε Q R q => q [] F H R Stp.refl .nil⟩
theorem RepPs.mono {K : PySem.W.Frag} {F F' : Hp} (s : Same F F') : ∀ {ps : List (V × V)} {qs : List (D × D)}, RepPs K F ps qs → RepPs K F' ps qs
  | _, _, .nil => .nil
  | _, _, .cons h1 h2 r => .cons (h1.mono s) (h2.mono s) (RepPs.mono s r)
theorem ep_cons {k v : Expr} {ks : List (Option Expr)} {vs : List Expr} {h : Mo (List (D × D))} (hk : EvD X C W k f) (hv : EvD X C W v g) (hr : EpD X C W pos ks vs h) : EpD X C W pos (some k :: ks) (v :: vs) (bnd f fun d => bnd g fun e => bnd h fun r => pur ((d, e) :: r)) := by
  obtain ⟨tk, p1, s1⟩ := hk
  obtain ⟨tv, p2, s2⟩ := hv
  obtain ⟨tr, p3, s3⟩ := hr
  refine ⟨_, pps_cons p1 p2 p3, fun F H σ ε Q R q => ?_⟩
  refine s1 F H σ ε _ R (q.bind.imp (fun d e q1 v F1 H1 R1 st1 r1 => ?_) fun x e z => z)
  refine s2 F1 H1 σ e _ R1 (q1.bind.imp (fun d2 e2 q2 v2 F2 H2 R2 st2 r2 => ?_) fun x e z => z.imp st1)
  refine s3 F2 H2 σ e2 _ R2 (q2.bind.imp (fun d3 e3 q3 ps F3 H3 R3 st3 r3 => ?_) fun x e z => z.imp (st1.trans st2))
  exact q3 ((v, v2) :: ps) F3 H3 R3 ((st1.trans st2).trans st3) (.cons ((r1.mono st2.ff).mono st3.ff) (r2.mono st3.ff) r3)
/-- int keys -/
def intKeys : List (D × D) → Bool
  | [] => true
  | (.int _, _) :: r => intKeys r
  | _ => false
def mDct (f : Mo (List (D × D))) : Mo D := bnd f fun qs => lft (if intKeys qs = true ∧ qs.length ≤ 15 then some .dct else none)
theorem keys_of {K : PySem.W.Frag} {F : Hp} : ∀ {ps : List (V × V)} {qs : List (D × D)}, RepPs K F ps qs → intKeys qs = true → ∃ kvs : List (Key × V), ps = kvs.map (fun kv => (kV kv.1, kv.2)) ∧ kvs.length = qs.length
  | _, _, .nil, _ => ⟨[], rfl, rfl⟩
  | _, (d, e) :: qs, .cons h1 h2 r, hk => by
    cases d with
    | int i =>
      obtain ⟨kvs, e1, e2⟩ := keys_of r hk
      rename_i x y ps
      refine ⟨(.inl i, y) :: kvs, ?_, by simp [e2]⟩
      rw [e1, rep_int h1]; rfl
    | _ => cases hk
theorem ev_dct {keys : List (Option Expr)} {vals : List Expr} {h : Mo (List (D × D))} (hp : EpD X C W pos keys vals h) (hall : keys.all (·.isSome) = true) (hl : keys.length = vals.length) (h0 : keys ≠ [])
    (hd : ∀ trs, PPs X pos keys vals trs → PE X e (tDisp trs)) : EvD X C W e (mDct h) := by
  obtain ⟨trs, p, s⟩ := hp
  refine ⟨_, hd _ p, fun F H σ ε Q R q => ?_⟩
  intro p0 hp0
  obtain ⟨n1, n2, n3⟩ := R.newApart hp0
  have R0 := R.loose (.dK []) hp0
  have st0 : Stp σ ε ε F H F (upd H p0 (.dK [])) := (Ste.loose R.fh hp0).stp
  refine s F _ σ ε _ R0 (q.bind.imp (fun qs e q1 ps F1 H1 R1 st1 r1 => ?_) fun x e z => z.imp st0)
  unfold lft at q1
  by_cases hc : intKeys qs = true ∧ qs.length ≤ 15
  · rw [if_pos hc] at q1
    obtain ⟨kvs, e1, e2⟩ := keys_of r1 hc.1
    have h1 : H1 p0 = some (.dK []) := st1.hh p0 _ upd_same n3
    have f1 : F1 p0 = none := (st1.old p0 (by rw [upd_same]; exact fun z => by cases z) n3).trans n1
    refine ⟨h1, kvs, e1, by rw [e2]; exact hc.2, ?_⟩
    have ap := st1.ap p0 n3
    have R2 := (R1.poke (o := .dK (mergeK [] kvs)) f1 n2 ap).freeze (l := p0) (o := .dK (mergeK [] kvs)) upd_same f1 n2 ap
    have st2 := st0.trans st1
    have ne : ∀ b, H b ≠ none → b ≠ p0 := fun b hb z => hb (by rw [z]; exact hp0)
    exact q1 (.ref p0) _ _ R2 ⟨st2.ff.trans (same_upd f1), fun b o hb p => by
        rw [upd_ne (ne b (by rw [hb]; exact fun z => by cases z))]; exact st2.hh b o hb p, fun b hb p => by
        rw [upd_ne (ne b hb)]; exact st2.old b hb p, st2.ap, fun b hb => by
        rw [upd_ne (ne b hb)]; exact st2.tr b hb⟩ (.dct upd_same)
  · rw [if_neg hc] at q1; exact q1.elim
end
end DL
namespace DL
open PySem PySem.Spec L2
def runO (n : Nat) (g : MoS) (ds : List D) : Option (List D) := match g (env0 n ds) with
  | some (.ro es _) => some es
  | _ => none
theorem runO_of {n : Nat} {g : MoS} {ds es : List D} (h : runO n g ds = some es) : ∃ ε, g (env0 n ds) = some (.ro es ε) := by
  unfold runO at h
  split at h
  · cases h; exact ⟨_, by assumption⟩
  · cases h
def runQ (n : Nat) (g : MoS) (ps ds : List D) : Option (Ans × List D) := outQ (g (envQ n ps ds))
def strOf : D → Option (List D)
  | .str x => some (x.cps.toList.map fun c => D.str ⟨#[c]⟩)
  | _ => none
def mTruth (f : Mo D) : Mo Bool := bnd f fun d => lft (gTruth d)
section
variable {X : Cx} {C : Ct} {W : WX} {e : Expr} {f : Mo D}
theorem te_seq (h : EvD X C W e f) (he : ∀ whole, isTrue e X.env whole = (do let v ← whole; standAt e.pos; holding [v] (truthy v)) := by intro _; rfl) : TeD X C W e (mTruth f) := by
  obtain ⟨te, p1, s1⟩ := h
  refine ⟨_, pt_truth p1 he, fun F H σ ε Q R q => ?_⟩
  refine s1 F H σ ε _ R (q.bind.imp (fun d e q1 v F1 H1 R1 st1 r1 => ?_) fun x e z => z)
  unfold lft at q1
  cases hk : gTruth d with
  | none => rw [hk] at q1; exact q1.elim
  | some k =>
    rw [hk] at q1
    refine ⟨k, ?_, q1 F1 H1 R1 st1⟩
    unfold gTruth at hk
    split at hk
    · cases hk
      obtain ⟨a, xs, rfl, h, r⟩ := rep_seqs r1
      exact .inl ⟨xs, Same.seq R1.fh h, by rw [empt r]⟩
    · cases hk
      obtain ⟨a, xs, rfl, h, r⟩ := rep_rdl r1
      exact .inl ⟨xs, Same.seq R1.fh h, by rw [empt r]⟩
    · cases hk
      obtain ⟨a, xs, rfl, h, r⟩ := rep_tup r1
      exact .inr (.inl ⟨xs, seqT R1.fh h, by rw [empt r]⟩)
    · cases hk
end
end DL
namespace DL
open PySem PySem.Spec L2
section
variable {X : Cx} {C : Ct} {W : WX} {a b c e : Expr} {f g h : Mo D} {pos : Pos}
theorem sd_test {K : PySem.W.Frag} {te : TE} (s : SdE K C W te f) : SdT K C W (tTest te) (mB f) := fun F H σ ε Q R q => by
  refine s F H σ ε _ R ((good_mB q).imp (fun d e ⟨k, ek, q1⟩ v F1 H1 R1 st1 r1 => ?_) fun x e z => z)
  subst ek
  exact ⟨k, rep_bl r1, q1 F1 H1 R1 st1⟩
theorem te_cmp {op : CmpOp} {r : R2} {k : D → D → Option D} (ho : OpR X (compareOp op) r) (hm : behindInMarks op b = false) (hv : VOp X.K r k) (ha : EvD X C W a f) (hb : EvD X C W b g) : TeD X C W (.Compare a [op] [b] pos) (mB (mOp k f g)) := by
  obtain ⟨ta, pa, sa⟩ := ha
  obtain ⟨tb, pb, sb⟩ := hb
  exact ⟨_, pt_cmpR ho pa pb hm, sd_test (sd_op hv sa sb)⟩
theorem sd_chain {K : PySem.W.Frag} {r r' : R2} {g1 g2 : D → D → Option D} {ta tb tc : TE} (hv : VOp K r g1) (hv' : VOp K r' g2) (s0 : SdE K C W ta f) (s1 : SdE K C W tb g) (s2 : SdE K C W tc h) : SdE K C W (tChain r r' ta tb tc) (mChain g1 g2 f g h) := fun F H σ ε Q R q => by
  refine s0 F H σ ε _ R (q.bind.imp (fun d e q1 v F1 H1 R1 st1 r1 => ?_) fun x e z => z)
  refine s1 F1 H1 σ e _ R1 (q1.bind.imp (fun d2 e2 q2 v2 F2 H2 R2 st2 r2 => ?_) fun x e z => z.imp st1)
  have q3 := good_mB q2.bind
  unfold lft at q3
  cases hk : g1 d d2 with
  | none => rw [hk] at q3; exact q3.elim
  | some k =>
    rw [hk] at q3
    obtain ⟨kb, ek, q4⟩ := q3
    subst ek
    refine hv F2 H2 v v2 d d2 _ _ R2.fh (r1.mono st2.ff) r2 hk fun w F3 H3 st3 rw' => ⟨kb, rep_bl rw', ?_⟩
    have R3 := R2.step st3
    have stA := (st1.trans st2).trans (st3.stp (σ := σ) (ε := e2))
    cases kb with
    | false =>
      refine iteF ?_
      exact q4 _ F3 H3 R3 stA (.bl false)
    | true =>
      refine iteT ?_
      rw [if_pos rfl] at q4
      refine s2 F3 H3 σ e2 _ R3 (q4.bind.imp (fun d4 e4 q5 v4 F4 H4 R4 st4 r4 => ?_) fun x e z => z.imp stA)
      cases hg : g2 d2 d4 with
      | none => rw [hg] at q5; exact q5.elim
      | some y =>
        rw [hg] at q5
        exact hv' F4 H4 v2 v4 d2 d4 _ _ R4.fh ((r2.mono st3.ff).mono st4.ff) r4 hg fun w5 F5 H5 st5 rw5 => q5 w5 F5 H5 (R4.step st5) ((stA.trans st4).trans st5.stp) rw5
theorem te_chain {op op' : CmpOp} {r r' : R2} {g1 g2 : D → D → Option D} (ho : OpR X (compareOp op) r) (ho' : OpR X (compareOp op') r') (hv : VOp X.K r g1) (hv' : VOp X.K r' g2) (ha : EvD X C W a f) (hb : EvD X C W b g) (hc : EvD X C W c h)
    (hp : ∀ ta tb tc, PE X a ta → PE X b tb → PE X c tc → PT X e (tTest (tChain r r' ta tb tc))) : TeD X C W e (mB (mChain g1 g2 f g h)) := by
  obtain ⟨ta, p0, s0⟩ := ha
  obtain ⟨tb, p1, s1⟩ := hb
  obtain ⟨tc, p2, s2⟩ := hc
  exact ⟨_, hp _ _ _ p0 p1 p2, sd_test (sd_chain hv hv' s0 s1 s2)⟩
end
end DL

set_option Elab.async false
set_option linter.all false
set_option maxRecDepth 100000
/-! floor division by any divisor: what the state's top leaves lets it go -/
namespace DL
open PySem PySem.Spec L2
/-- a fragment that tells that nobody listens, at any state that holds it -/
structure SeerK (K : PySem.W.Frag) : Prop where
  mods : ∃ o es ep, List.lookup sysModules K = some o ∧ o.data = .dict es ep ∧ StrKeys es ∧ nsFind es "_pylong" = none
  c1 : PySem.W.nsIn K cStatics "sys.audit-hooks" = some none
  c2 : PySem.W.nsIn K cStatics "sys.dict" = some none
  main : ∃ bm oc sl d, PySem.W.nsIn K mainGlobals "__builtins__" = some (some (.ref bm)) ∧ List.lookup bm K = some ⟨oc, some builtinsNs, d, sl⟩ ∧ oc = .type "module"
theorem nsIn_none {K : PySem.W.Frag} {h : Heap} {a : Addr} {m : Str → Option Value} {n : Str} (X : K.In h) (G : h.Ns a m) (e : PySem.W.nsIn K a n = some none) : m n = none := by
  obtain ⟨o, es, ep, ho, hd, hs, hf⟩ := G
  unfold PySem.W.nsIn at e
  split at e
  · rename_i cls dict es' ep' slots hl
    have q := X _ _ hl
    rw [ho] at q
    cases q
    cases hd
    split at e
    · cases e
    · rename_i hn
      rw [← hf]
      unfold nsFind findBy
      rw [← Array.find?_toList]
      rw [hn]
      rfl
  · cases e
theorem SeerK.seer {K : PySem.W.Frag} {mg : Str → Option Value} {h : Heap} (S : SeerK K) (X : K.In h) (hg : h.Ns mainGlobals mg) (hb : ∃ mb, h.Ns builtinsNs mb ∧ ∀ (x : Str), x ≠ Str.ofString "__name__" → mb x = bootBuiltins x) (hl : h.NoLimit) : h.NoSeer where
  statics := by
    obtain ⟨mc, n, _⟩ := hl
    exact ⟨mc, n, nsIn_none X n S.c1, nsIn_none X n S.c2⟩
  mods := by
    obtain ⟨o, es, ep, h1, h2, h3, h4⟩ := S.mods
    exact ⟨nsFind es, ⟨o, es, ep, X _ _ h1, h2, h3, fun _ => rfl⟩, h4⟩
  imp := hb
  main := by
    obtain ⟨bm, oc, sl, d, h1, h2, h3⟩ := S.main
    exact ⟨mg, bm, _, hg, PySem.W.mg_of X hg h1, X _ _ h2, h3, rfl⟩
def Seer (X : Cx) : Prop := ∀ pins s σ H, L2.Inv X pins σ H s → PylongRoom (model X.prog X.w) X.A s
theorem base_ns {X : Cx} {pins : List (Addr × Obj)} {σ : List (Option V)} {H : Hp} {s : Shared} (I : L2.Inv X pins σ H s) {a : Addr} {m : Str → Option Value} (h : X.base.Ns a m) : s.heap.Ns a m := by
  obtain ⟨o, es, ep, h1, h2⟩ := h
  exact ⟨o, es, ep, (I.bs _ _ h1).1, h2⟩
theorem seer_cx {P : Program} {w : World} {K : PySem.W.Frag} {mg : Str → Option Value} {base : Heap} {CX : CXT} {N : List Str} {qual : Str} {sc : Scope} {f : Addr} {cd : Value} {A : Around} {outer : List Env} {s : Shared} {H : Hp} {E : XK} {k : Nat}
    (S : SeerK K) (hP : P.given.tree = none) (hr : Room k (A.deeper (PyProof.Rows.envOfC qual sc s.heap.objs.size f cd))) (hk : 32 ≤ k) (g1 : sc.isGenerator = false) (g2 : sc.isCoroutine = false) : Seer (cxOf CX P w K mg base N qual sc f cd A outer s H E) := fun pins s1 σ H1 I => by
  have M := I.ok.mod
  obtain ⟨mb, b1, b2⟩ := M.blt
  have N := SeerK.seer (mg := mg) S I.kIn (base_ns I M.glob) ⟨mb, base_ns I b1, b2⟩ I.nolimit
  refine PylongRoom.of I.nolimit ?_ ?_
  · have := hr.dp
    show (A.deeper _).depth + 100 < recursionLimit
    omega
  · exact SeerAt.of (env := PyProof.Rows.envOfC qual sc s.heap.objs.size f cd) (l := outer) N hP I.ok.frames g1 g2 I.ok.blt I.ok.glob
def CPos (i j : Int) : Prop := 0 < j
theorem op_fdivP {X : Cx} (S : Seer X) : OpR X (binaryOp .FloorDiv) (rI CPos fun i j => .int (i / j)) := by
  intro pins s σ H x y v u Q I rx ry h
  obtain ⟨i, j, rfl, rfl, hj, q⟩ := h
  obtain ⟨t, rfl⟩ := rx
  obtain ⟨t2, rfl⟩ := ry
  have hj : 0 < j := hj
  refine PyProof.Rows.floordiv_int (by omega) ?_ (Or.inr (S pins s σ H I))
  rw [Int.fdiv_eq_ediv_of_nonneg i (by omega)]
  exact ⟨.int _, H, I.kept (fun _ _ h => h), ⟨_, rfl⟩, q⟩
def gDivP := gI (fun _ j => decide (0 < j)) fun i j => .int (i / j)
theorem ev_divP {X : Cx} {C : Ct} {W : WX} {a b : Expr} {f g : Mo D} {pos : Pos} (S : Seer X) (ha : EvD X C W a f) (hb : EvD X C W b g) : EvD X C W (.BinOp a .FloorDiv b pos) (mOp gDivP f g) := ev_op (op_fdivP S) (vop_I (fun i j h => (show CPos i j from of_decide_eq_true (p := 0 < j) h)) fun _ _ _ => .int _) ha hb
/-! ### the end, with a fragment that tells it -/
theorem lk_app {K L : PySem.W.Frag} {a : Addr} {o : Obj} (h : List.lookup a K = some o) : List.lookup a (K ++ L) = some o := by
  induction K with
  | nil => cases h
  | cons p r ih =>
    rw [List.cons_append]
    unfold List.lookup at h ⊢
    split
    · rename_i e; rw [e] at h; exact h
    · rename_i e; rw [e] at h; exact ih h
theorem lk_none {K L : PySem.W.Frag} {a : Addr} (h : List.lookup a K = none) : List.lookup a (K ++ L) = List.lookup a L := by
  induction K with
  | nil => rfl
  | cons p r ih =>
    obtain ⟨k, b⟩ := p
    cases e : a == k with
    | true => simp [List.lookup, e] at h
    | false =>
      have h1 : List.lookup a ((k, b) :: r ++ L) = List.lookup a (r ++ L) := by
        rw [List.cons_append]
        show (match a == k with | true => some b | false => List.lookup a (r ++ L)) = _
        rw [e]
      have h2 : List.lookup a r = none := by
        have : List.lookup a ((k, b) :: r) = (match a == k with | true => some b | false => List.lookup a r) := rfl
        rw [this, e] at h
        exact h
      exact h1.trans (ih h2)
theorem ns_app {K L : PySem.W.Frag} {a : Addr} {n : Str} {r : Option Value} (h : PySem.W.nsIn K a n = some r) : PySem.W.nsIn (K ++ L) a n = some r := by
  unfold PySem.W.nsIn at h ⊢
  cases e : List.lookup a K with
  | none => rw [e] at h; cases h
  | some o => rw [lk_app e]; rw [e] at h; exact h
theorem code_app {K L : PySem.W.Frag} {v : Value} {q : Str} (h : PySem.W.codeIn K v q = true) : PySem.W.codeIn (K ++ L) v q = true := by
  unfold PySem.W.codeIn at h ⊢
  cases v with
  | ref c =>
    cases e : List.lookup c K with
    | none => simp only [e] at h; cases h
    | some o => simp only [lk_app e]; simp only [e] at h; exact h
  | _ => cases h
theorem keep_of {K : PySem.W.Frag} {f : Addr} {oc : Value} {od : Option Addr} {fd : FuncData} {sl : Array (Option Value)} (h : List.lookup f K = some ⟨oc, od, .func fd, sl⟩) : PySem.W.keepIn K (.ref f) = true := by
  unfold PySem.W.keepIn
  simp only [h]
/-- what a part of the state behind the top adds to a fragment -/
structure SeerL (bm : Addr) (K : PySem.W.Frag) : Prop where
  mods : ∃ o es ep, List.lookup sysModules K = some o ∧ o.data = .dict es ep ∧ StrKeys es ∧ nsFind es "_pylong" = none
  bm : ∃ ob, List.lookup bm K = some ob ∧ ob.cls = .type "module" ∧ ob.dict = some builtinsNs
theorem seer_app {K L : PySem.W.Frag} {bm : Addr} (hm : SeerL bm (K ++ L)) (m1 : PySem.W.nsIn K mainGlobals "__builtins__" = some (some (.ref bm)))
    (c1 : PySem.W.nsIn K cStatics "sys.audit-hooks" = some none) (c2 : PySem.W.nsIn K cStatics "sys.dict" = some none) : SeerK (K ++ L) :=
  ⟨hm.mods, ns_app c1, ns_app c2, by obtain ⟨⟨oc, od, d, sl⟩, h1, h2, h3⟩ := hm.bm; cases h3; exact ⟨bm, oc, sl, d, ns_app m1, h1, h2⟩⟩
theorem ns_eq {h : Heap} {a : Addr} {m m' : Str → Option Value} (h1 : h.Ns a m) (h2 : h.Ns a m') (x : Str) : m x = m' x := by
  obtain ⟨o, es, ep, e1, e2, _, e3⟩ := h1
  obtain ⟨o', es', ep', f1, f2, _, f3⟩ := h2
  rw [e1] at f1
  cases f1
  rw [e2] at f2
  cases f2
  rw [← e3, ← f3]
theorem walk_ofS {l : PySem.W.OpenLaw} {n k : Nat} {q : Program} {loose : List Str} {XP : (Str → Option Value) → Heap → Prop} {YP : World → Heap → Prop} {d : DefRec} {K : Params → PySem.W.Frag} {CX : World → CXT} {sp : World → PySem.W.Frag → Sp} {x : Str} {bm : Addr}
    (hn : l.most = some n) (hn2 : n ≤ sizeLine) (hdf : d.params.defaults = []) (hr : Room k callerA) (hq : PyProof.Rows.importsNone q = true) (hY : ∀ (w : World) (h : Heap), YP w h → (K w.params).In h)
    (hB2 : ∀ p, PySem.W.nsIn (K p) mainGlobals "__builtins__" = some (some (.ref bm))) (hK : ∀ p, List.lookup sysModules (K p) = none) (hB : ∀ p, List.lookup bm (K p) = none) (hne : (bm == sysModules) = false)
    (F : ∀ (w : World) (L : PySem.W.Frag) (mg : Str → Option Value) (fa : Addr) (h : Heap), SeerL bm (K w.params ++ L) → (K w.params ++ L).In h → h.Ns mainGlobals mg → mg d.name = some (.ref fa) →
      ∃ fd, (∀ (s : Shared) (u : Value), BindsTo s fd { pos := [u] } [(x, u)]) ∧ ∀ base : Heap, (K w.params ++ L).In base → base.Ns mainGlobals mg → FnOk l.prog w (K w.params ++ L) mg base (CX w) k fa fd [x] (sp w (K w.params ++ L)))
    (hsp : ∀ (w : World) (K : PySem.W.Frag) (H : Hp) (a : Addr) (ns : List Int), ns.length ≤ n → (∀ z : Int, z ∈ ns → Builtin.Int.intBits z ≤ 1048576) → Only H → SqL K H a (List.map V.int ns) → sp w K [V.ref a] H (fun v _ => v = V.bl true) fun _ _ _ => False)
    (hCX : ∀ (w : World) (H : Hp) (s : Shared) (e : Value) (s' : Shared), CX w [] H s (fun _ _ _ => False) e s' → False) : PySem.W.WalkO q loose XP YP l.row.toRowW d [] fun f vs => call f vs := by
  intro w s₀ s₁ mg mb G Y
  have N := G.T.seer hq
  obtain ⟨mm, ⟨o, es, ep, h1, h2, h3, h4⟩, h5⟩ := N.mods
  obtain ⟨mg2, bm2, ob, g1, g2, g3, g4, g5⟩ := N.main
  have eb : bm2 = bm := by
    have e1 := PySem.W.mg_of (hY _ _ Y) G.T.g (hB2 _)
    rw [ns_eq G.T.g g1, g2] at e1
    cases e1
    rfl
  subst eb
  have hY2 : ∀ (w' : World) (h' : Heap), (w' = w ∧ h' = s₁.heap) → (K w'.params ++ [(sysModules, o), (bm2, ob)]).In h' := by
    rintro w' h' ⟨rfl, rfl⟩ a o' ha
    cases e : List.lookup a (K w'.params) with
    | some o2 =>
      rw [lk_app e] at ha
      cases ha
      exact hY _ _ Y a _ e
    | none =>
      rw [lk_none e] at ha
      cases ea : a == sysModules with
      | true =>
        simp [List.lookup, ea] at ha
        rw [eq_of_beq ea, ← ha]
        exact h1
      | false =>
        cases eb : a == bm2 with
        | true =>
          simp [List.lookup, ea, eb] at ha
          rw [eq_of_beq eb, ← ha]
          exact g3
        | false => simp [List.lookup, ea, eb] at ha
  have hL : ∀ p, SeerL bm2 (K p ++ [(sysModules, o), (bm2, ob)]) := fun p => ⟨⟨o, es, ep, by rw [lk_none (hK _)]; simp [List.lookup], h2, h3, (h4 _).trans h5⟩, ⟨ob, by rw [lk_none (hB _)]; simp [List.lookup, hne], g4, g5⟩⟩
  exact walk_ofB (YP := fun w' h' => w' = w ∧ h' = s₁.heap) (XP := XP) (loose := loose) (q := q) (K := fun p => K p ++ [(sysModules, o), (bm2, ob)]) (CX := CX) (sp := fun w' => sp w' (K w'.params ++ [(sysModules, o), (bm2, ob)])) hn hn2 hdf hr hY2 (fun w' mg' fa h KX Gm hmg => F w' _ mg' fa h (hL _) KX Gm hmg) (fun w' H a ns => hsp w' _ H a ns) hCX w s₀ s₁ mg mb G ⟨rfl, rfl⟩
end DL

set_option Elab.async false
set_option linter.all false
set_option maxRecDepth 100000
set_option maxHeartbeats 200000
namespace DL
open PySem PySem.Spec L2
theorem kin_x {prog : Program} {w : World} {A : Around} {E : Value → Shared → Prop} {s : Shared} {K : PySem.W.Frag} {x D : Addr} {ox : Obj} {od : Option Obj} {Q : Option Value → Shared → Prop} (T : ExcC K D)
    (hf : PySem.W.findObj K D od "__class__" = some (.bind (.builtin "getset_descriptor.__get__") (.builtin "object.__class__"))) (X : K.In s.heap) (I : PySem.W.InstAt s.heap x ox D od) (h : Q (some (.ref D)) { s with toks := s.toks + 1 }) :
    wpAny (model prog w) A (getAttr? (.ref x) "__class__") Q E s := by
  obtain ⟨hp, g, d, t, os⟩ := s
  have L0 : PySem.W.Looks (model prog w) hp (typeOf (.ref x)) (.ref D) := I.type
  have L1 : PySem.W.Looks (model prog w) hp _ _ := PySem.W.looks_findIn X T.hg
  have L2' : PySem.W.Looks (model prog w) hp _ _ := PySem.W.looks_findIn X T.hk
  have L3 : PySem.W.Looks (model prog w) hp _ _ := PySem.W.looks_find X I hf
  have sub : PySem.W.Looks (model prog w) hp (isInstance (.ref x) (.type "BaseException")) true := PySem.W.Looks.andThen L0 (PySem.W.looks_subIn X T.hs)
  unfold getAttr?
  refine wpAny_bind (wpAny_mkText ?_)
  unfold getAttrBy?
  refine wpAny_bind (wpAny_attempt ?_)
  unfold getAttrBy
  refine wpAny_holding (wpAny_bind (PySem.W.Looks.at L0 (wpAny_bind (PySem.W.Looks.at L1 ?_))))
  have n1 : (onTheHeap (Value.ref D) && (Value.builtin "BaseException.__getattribute__" == Value.builtin "object.__getattribute__")) = false := by
    rw [show (Value.builtin "BaseException.__getattribute__" == Value.builtin "object.__getattribute__") = false by decide +kernel, Bool.and_false]
  show wpAny _ _ (if (onTheHeap (Value.ref D) && (Value.builtin "BaseException.__getattribute__" == Value.builtin "object.__getattribute__")) = true then _ else _) _ _ _
  rw [n1, if_neg Bool.false_ne_true]
  unfold getAttrByItsOwn
  refine wpAny_bind ?_
  show wpAny _ _ (if onTheHeap (Value.ref D) = true then _ else _) _ _ _
  rw [if_pos (show onTheHeap (Value.ref D) = true from rfl)]
  refine PySem.W.Looks.at L2' (wpAny_bind (wpAny_attempt (wpAny_holding ?_)))
  unfold callGetattribute
  rw [show (false && onTheHeap (Value.builtin "BaseException.__getattribute__")) = false from rfl, if_neg Bool.false_ne_true]
  unfold boundAndCalled
  refine wpAny_bind (wpAny_of_eq (PySem.F.excAttr_ValueError.ga.bind (Value.ref x)) ?_)
  refine wpAny_call ?_
  refine codeAny_call_builtin PySem.F.excAttr_ValueError.ga.plain PySem.F.entry_bexc_ga ?_
  have k1 : builtinKind "BaseException.__getattribute__" = some Manifest.AttrKind.slot := by decide +kernel
  have k2 : splitId "BaseException.__getattribute__" = some ("BaseException", "__getattribute__") := by decide +kernel
  have ar : argsOk "BaseException.__getattribute__" ⟨[Value.ref x, Value.str "__class__" t], []⟩ := PySem.F.args_bexc_ga (Value.ref x) (Value.str "__class__" t)
  refine @PySem.W.check_slot (model prog w) _ _ _ "BaseException.__getattribute__" "BaseException" "__getattribute__" (.ref x) [Value.str "__class__" t] [] _ k1 k2 sub ar ?_
  have k3 : slotArgs "__getattribute__" 1 ⟨[Value.ref x, Value.str "__class__" t], []⟩ = pure (Value.ref x, [Value.str "__class__" t]) := by simp [slotArgs]
  unfold Builtin.«object.__getattribute__»
  refine wpAny_bind (wpAny_of_eq k3 ?_)
  refine wpAny_bind (wpAny_pure ?_)
  refine wpAny_bind (PySem.W.Looks.at L0 ?_)
  refine wpAny_bind (PySem.W.Looks.at L3 ?_)
  change wpAny _ _ (Builtin.ObjectAttr.bindTo (.builtin "getset_descriptor.__get__") (.builtin "object.__class__") (Value.ref x) (Value.ref D)) _ _ _
  unfold Builtin.ObjectAttr.bindTo
  dsimp only
  refine wpAny_bind (wpAny_holding (wpAny_call (PySem.W.class_get X I T.hm ?_)))
  refine wpAny_pure ?_
  dsimp only
  rw [PySem.W.handedOut_of (v := Value.ref D) rfl]
  exact wpAny_pure (wpAny_pure h)
theorem kitx_x {K : PySem.W.Frag} {x D : Addr} {ox : Obj} {od : Option Obj} (T : ExcC K D)
    (hf : PySem.W.findObj K D od "__class__" = some (.bind (.builtin "getset_descriptor.__get__") (.builtin "object.__class__"))) : PySem.W.KitX K (.ref x) (.ref D) fun h => PySem.W.InstAt h x ox D od where
  ty := fun M h X I => I.type
  it := fun M h X I => by
    obtain ⟨cd, hc, _⟩ := PySem.W.any_some T.hd
    unfold PySem.W.clsIn at hc
    split at hc
    · rename_i cls dict cd' slots hl
      intro A Q E s hs q
      unfold isType
      refine wpAny_bind ?_
      unfold loadHead
      exact wpAny_loadPart (hs _ _ (X _ _ hl)) (wpAny_pure q)
    · cases hc
  ne := fun h tp dd its n sl X ht => by
    obtain ⟨cd, hc, _⟩ := PySem.W.any_some T.hd
    unfold PySem.W.clsIn at hc
    split at hc
    · rename_i cls dict cd' slots hl
      have e := X _ _ hl
      cases hq : (Value.ref D == Value.ref tp) with
      | false => rfl
      | true =>
        have := eq_of_beq hq
        cases this
        rw [ht] at e
        cases e
    · cases hc
  ca := fun X I h => kin_x T hf X I h
/-! ### isinstance of the exception that a suite holds -/
def XdOk (H : Hp) (d : Option Addr) : Prop := ∀ dd, d = some dd → ∃ fs, H dd = some (.xd fs)
theorem fo_x {K : PySem.W.Frag} {D : Addr} (T : ExcC K D) (od : Option Obj) : PySem.W.findObj K D od "__class__" = some (.bind (.builtin "getset_descriptor.__get__") (.builtin "object.__class__")) := by
  have hs : (PySem.W.clsIn K D).isSome = true := by
    obtain ⟨cd, hc, _⟩ := PySem.W.any_some T.hd
    rw [hc]; rfl
  cases od with
  | none => exact PySem.W.findObj_dataN hs T.ha T.hn T.ht
  | some o => exact PySem.W.findObj_data hs T.ha T.hn T.ht
section
variable {X : Cx} {a D : Addr} {oe : Obj} {d : Option Addr} {pn : List (Addr × Obj)}
theorem inst_x {pins : List (Addr × Obj)} {s : Shared} {σ : St} {H : Hp} (I : L2.Inv (X.suite a ((a, oe) :: pn)) pins σ H s) (hz : Zc (.ref D) d oe) (hf : ∃ vs, oe.data = .fields vs) (hx : XdOk H d) : ∃ od, PySem.W.InstAt s.heap a oe D od := by
  obtain ⟨hget, _⟩ := I.pin (a, oe) (List.mem_append_left _ List.mem_cons_self)
  obtain ⟨vs, hv⟩ := hf
  have hn : PySem.W.notCls oe = true := by unfold PySem.W.notCls; rw [hv] <;> rfl
  cases d with
  | none => exact ⟨none, hget, hz.1, hn, by rw [hz.2]; trivial⟩
  | some dd =>
    obtain ⟨fs, hd⟩ := hx dd rfl
    have ob : ObjOk _ _ H s.heap dd (.xd fs) := I.hok dd _ hd
    obtain ⟨mA, hns, _⟩ := ob
    obtain ⟨od, ho, _⟩ := lookIn_ns hns
    exact ⟨some od, hget, hz.1, hn, by rw [hz.2]; exact ho⟩
theorem call_isX (T : ExcC X.K D) (hz : Zc (.ref D) d oe) (hf : ∃ vs, oe.data = .fields vs) : CallR (X.suite a ((a, oe) :: pn)) (.builtin "isinstance") (fun xs H Q => ∃ (c : V) (cv : Value) (b : Bool), xs = [.ref a, c] ∧ XdOk H d ∧ (∀ u, RelV c u → u = cv) ∧ PySem.W.kitOne X.K (.ref D) cv = some b ∧ Q (.bl b) H) := by
  intro pins s σ H xs us Q I r ⟨c, cv, b, e, hx, hcv, hk, q⟩
  subst e
  cases r with
  | cons r1 r2 =>
    cases r2 with
    | cons r3 r4 =>
      cases r4
      obtain ⟨od, J⟩ := inst_x I hz hf hx
      have r1' := r1
      cases r1'
      exact PySem.W.kia_one (kitx_x T (fo_x T od)) I.kIn J (by rw [hcv _ r3]; exact hk) (fun z => by cases z) fun tk => ⟨.bl b, H, I.kept (fun _ _ h => h), rfl, q⟩
theorem call_isXT (T : ExcC X.K D) (hz : Zc (.ref D) d oe) (hf : ∃ vs, oe.data = .fields vs) : CallR (X.suite a ((a, oe) :: pn)) (.builtin "isinstance") (fun xs H Q => ∃ (tp : Addr) (cs : List V) (us : List Value) (b : Bool), xs = [.ref a, .ref tp] ∧ XdOk H d ∧ H tp = some (.tup cs) ∧ (∀ vs, Vals cs vs → vs = us) ∧ PySem.W.kitAny X.K (.ref D) us = some b ∧ Q (.bl b) H) := by
  intro pins s σ H xs us Q I r ⟨tp, cs, us2, b, e, hx, ht, hcv, hk, q⟩
  subst e
  cases r with
  | cons r1 r2 =>
    cases r2 with
    | cons r3 r4 =>
      cases r4
      obtain ⟨od, J⟩ := inst_x I hz hf hx
      cases r1
      cases r3
      obtain ⟨its, rv, hi, _⟩ := I.tuple (.inl (.inl ht))
      obtain ⟨o, ho, h1, n, h2⟩ := hi
      obtain ⟨oc, odd, odat, osl⟩ := o
      cases h1
      cases h2
      have e := hcv _ rv
      subst e
      exact PySem.W.kia_tup (kitx_x T (fo_x T od)) I.kIn J ho hk (fun z => by cases z) fun tk => ⟨.bl b, H, I.kept (fun _ _ h => h), rfl, q⟩
end
end DL

set_option Elab.async false
set_option linter.all false
set_option maxRecDepth 100000
/-! try: .. except X as e: .. -/
namespace DL
open PySem PySem.Spec L2
def canS (K : PySem.W.Frag) (C : Ct) (W : WX) (g : MoS) : TS := fun D σ H => ∃ F ε, Rep K C F H σ ε ∧ GoodS K C W F D (g ε)
theorem SsD.can {X : Cx} {C : Ct} {W : WX} {b : List Stmt} {g : MoS} (h : SsD X C W b g) : PSs X b (canS X.K C W g) := by
  obtain ⟨ts, p, s⟩ := h
  exact ⟨fun pins st σ H D I ⟨F, ε, R, q⟩ => p.run pins st σ H D I (s F H σ ε D R q)⟩
/-- what is known of an exception in its suite -/
structure XcOk (K : PySem.W.Frag) (C : Ct) (x : Xn) (cls : Value) (d : Option Addr) : Prop where
  cls : ∃ c, cls = .ref c ∧ PySem.W.nsIn K mainGlobals (Str.ofString x.cls) = some (some (.ref c))
  fs : (d = none ∧ x.fs = []) ∨ ∃ dd vs, d = some dd ∧ C.H0 dd = some (.xd vs) ∧ RepF K C.F0 vs x.fs
def Ent.cl : Ent → Ent
  | .xc => .un
  | .od _ => .un
  | .ib _ => .un
  | e => e
def noX (ε : List Ent) : List Ent := ε.map Ent.cl
theorem cl_mut {e : Ent} (h : e.cl.mut = true) : e.mut = true := by
  cases e <;> first | exact h | cases h
theorem noX_get {ε : List Ent} {j : Nat} {e : Ent} (h : (noX ε)[j]? = some e) : ∃ e0, ε[j]? = some e0 ∧ e0.cl = e := by
  unfold noX at h
  rw [List.getElem?_map] at h
  cases q : ε[j]? with
  | none => rw [q] at h; cases h
  | some e0 => rw [q] at h; cases h; exact ⟨e0, rfl, rfl⟩
section
variable {K : PySem.W.Frag} {C : Ct} {F H : Hp} {σ : St} {ε : List Ent}
theorem Rep.toSuite (R : Rep K C F H σ ε) (i : Nat) (a : Addr) {H0' : Hp} (h1 : ∀ b o, H0' b = some o → C.A ≠ some b → H b = some o) (h2 : ∀ b, H0' b ≠ none → H b ≠ none) (h3 : ∀ l vs, H l = some (.lst vs) → C.H0 l = none → H0' l = none) :
    Rep K ⟨F, H0', C.A, some a⟩ F H (σ.set i (some (.ref a))) ((noX ε).set i .xc) where
  fh := R.fh
  ff := Same.refl F
  old := fun _ _ => rfl
  keep := h1
  tr := h2
  len := by rw [List.length_set, List.length_set]; unfold noX; rw [List.length_map]; exact R.len
  ent := fun j e he => by
    by_cases hj : i = j
    · subst hj
      have hl : i < (noX ε).length := by
        have := (List.getElem?_eq_some_iff.mp he).1
        rwa [List.length_set] at this
      rw [List.getElem?_set_self hl] at he
      cases he
      exact ⟨a, rfl, by rw [List.getElem?_set_self (by rw [R.len]; unfold noX at hl; rwa [List.length_map] at hl)]⟩
    · rw [List.getElem?_set_ne hj] at he
      rw [List.getElem?_set_ne hj]
      obtain ⟨e0, h0, rfl⟩ := noX_get he
      have q := R.ent j e0 h0
      cases e0 with
      | un => trivial
      | xc => trivial
      | dat d => exact q
      | own ds =>
        obtain ⟨l, vs, q1, q2, q3, q4, q5⟩ := q
        exact ⟨l, vs, q1, q2, q3, q4, h3 l vs q2 q5⟩
      | io ds => exact q
      | od ob => trivial
      | ib ob => trivial
  dis := fun p q l e e' g1 g2 g3 g4 g5 g6 => by
    by_cases hp : i = p
    · subst hp
      have hl : i < (noX ε).length := by
        have := (List.getElem?_eq_some_iff.mp g3).1
        rwa [List.length_set] at this
      rw [List.getElem?_set_self hl] at g3
      cases g3; cases g5
    · by_cases hq : i = q
      · subst hq
        have hl : i < (noX ε).length := by
          have := (List.getElem?_eq_some_iff.mp g4).1
          rwa [List.length_set] at this
        rw [List.getElem?_set_self hl] at g4
        cases g4; cases g6
      · rw [List.getElem?_set_ne hp] at g1 g3
        rw [List.getElem?_set_ne hq] at g2 g4
        obtain ⟨e0, k0, rfl⟩ := noX_get g3
        obtain ⟨e1, k1, rfl⟩ := noX_get g4
        exact R.dis p q l e0 e1 g1 g2 k0 k1 (cl_mut g5) (cl_mut g6)
theorem Rep.ofSuite {a : Option Addr} {F0 H0' : Hp} (R : Rep K ⟨F0, H0', C.A, a⟩ F H σ ε) (h1 : Same C.F0 F0) (h2 : ∀ b, C.H0 b ≠ none → F0 b = C.F0 b) (h3 : ∀ b o, C.H0 b = some o → C.A ≠ some b → H0' b = some o) (h4 : ∀ b, C.H0 b ≠ none → H0' b ≠ none) : Rep K C F H σ (noX ε) where
  fh := R.fh
  ff := h1.trans R.ff
  old := fun b h => (R.old b (h4 b h)).trans (h2 b h)
  keep := fun b o h n => R.keep b o (h3 b o h n) n
  tr := fun b h => R.tr b (h4 b h)
  len := by unfold noX; rw [List.length_map]; exact R.len
  ent := fun j e he => by
    obtain ⟨e0, h0, rfl⟩ := noX_get he
    have q := R.ent j e0 h0
    cases e0 with
    | un => trivial
    | xc => trivial
    | dat d => exact q
    | own ds =>
      obtain ⟨l, vs, q1, q2, q3, q4, q5⟩ := q
      refine ⟨l, vs, q1, q2, q3, q4, ?_⟩
      cases e : C.H0 l with
      | none => rfl
      | some o => exact absurd q5 (h4 l (by rw [e]; exact fun z => by cases z))
    | io ds => exact q
    | od ob => trivial
    | ib ob => trivial
  dis := fun p q l e e' g1 g2 g3 g4 g5 g6 => by
    obtain ⟨e0, k0, rfl⟩ := noX_get g3
    obtain ⟨e1, k1, rfl⟩ := noX_get g4
    exact R.dis p q l e0 e1 g1 g2 k0 k1 (cl_mut g5) (cl_mut g6)
/-- a name is gone -/
theorem Rep.gone (R : Rep K C F H σ ε) (i : Nat) : Rep K C F H (σ.set i none) (ε.set i .un) where
  fh := R.fh
  ff := R.ff
  old := R.old
  keep := R.keep
  tr := R.tr
  len := by rw [List.length_set, List.length_set]; exact R.len
  ent := fun j e he => by
    by_cases hj : i = j
    · subst hj
      have hl : i < ε.length := by
        have := (List.getElem?_eq_some_iff.mp he).1
        rwa [List.length_set] at this
      rw [List.getElem?_set_self hl] at he
      cases he
      trivial
    · rw [List.getElem?_set_ne hj] at he
      rw [List.getElem?_set_ne hj]
      exact R.ent j e he
  dis := fun p q l e e' g1 g2 g3 g4 g5 g6 => by
    by_cases hp : i = p
    · subst hp
      have hl : i < ε.length := by
        have := (List.getElem?_eq_some_iff.mp g3).1
        rwa [List.length_set] at this
      rw [List.getElem?_set_self hl] at g3
      cases g3; cases g5
    · by_cases hq : i = q
      · subst hq
        have hl : i < ε.length := by
          have := (List.getElem?_eq_some_iff.mp g4).1
          rwa [List.length_set] at this
        rw [List.getElem?_set_self hl] at g4
        cases g4; cases g6
      · rw [List.getElem?_set_ne hp] at g1 g3
        rw [List.getElem?_set_ne hq] at g2 g4
        exact R.dis p q l e e' g1 g2 g3 g4 g5 g6
end
def after (i : Nat) : Option ResS → Option ResS
  | some (.nx ε) => some (.nx ((noX ε).set i .un))
  | some (.bk ε) => some (.bk ((noX ε).set i .un))
  | some (.ct ε) => some (.ct ((noX ε).set i .un))
  | some (.rt d ε) => some (.rt d (noX ε))
  | some (.ro ds ε) => some (.ro ds (noX ε))
  | _ => none
def mTry (i : Nat) (tbl : List (String × Bool)) (g : MoS) (su : Xn → MoS) : MoS := fun ε => match g ε with
  | some (.ex x ε') => (match tbl.lookup x.cls with
    | some true => after i (su x ((noX ε').set i .xc))
    | some false => some (.ex x ε')
    | none => none)
  | r => r
/-- from the suite back -/
theorem after_good {K : PySem.W.Frag} {C : Ct} {W : WX} {F F1 H0' : Hp} {D : Ends} {i : Nat} {a : Option Addr} {r : Option ResS} (h1 : Same C.F0 F1) (h2 : ∀ b, C.H0 b ≠ none → F1 b = C.F0 b) (h3 : ∀ b o, C.H0 b = some o → C.A ≠ some b → H0' b = some o) (h4 : ∀ b, C.H0 b ≠ none → H0' b ≠ none) (sF : Same F F1)
    (q : GoodS K C W F D (after i r)) : GoodS K ⟨F1, H0', C.A, a⟩ W0 F1 { nx := fun σ' H' => D.nx (List.set σ' i none) H', rt := D.rt, bk := fun σ' H' => D.bk (List.set σ' i none) H', ct := fun σ' H' => D.ct (List.set σ' i none) H' } r := by
  cases r with
  | none => exact q
  | some r =>
    cases r with
    | nx e => exact fun F' H' σ' R s => q F' H' _ ((R.ofSuite h1 h2 h3 h4).gone i) (sF.trans s)
    | bk e => exact fun F' H' σ' R s => q F' H' _ ((R.ofSuite h1 h2 h3 h4).gone i) (sF.trans s)
    | ct e => exact fun F' H' σ' R s => q F' H' _ ((R.ofSuite h1 h2 h3 h4).gone i) (sF.trans s)
    | rt d e => exact fun v F' H' σ' R s r => q v F' H' σ' (R.ofSuite h1 h2 h3 h4) (sF.trans s) r
    | ro ds e => exact fun l vs F' H' σ' R s k1 k2 k3 k4 => q l vs F' H' σ' (R.ofSuite h1 h2 h3 h4) (sF.trans s) k1 k2 k3 (by
        cases e : C.H0 l with
        | none => rfl
        | some o => exact absurd k4 (h4 l (by rw [e]; exact fun z => by cases z)))
    | ex x e => exact q.elim
section
variable {X : Cx} {C : Ct} {W : WX} {x n : Str} {c : Value} {i : Nat} {body suite : List Stmt} {b₀ : Stmt} {np pos pos' : Pos} {g : MoS} {su : Xn → MoS} {tbl : List (String × Bool)}
theorem st_try (hA : C.A = none) (hs : X.stack = X.env :: X.outer) (hf : X.env.frame = some X.env.locals) (hN : X.N.Nodup) (hi : X.N[i]? = some n) (hln : X.env.kindOf n = some .local) (hc : Names X x c) (tk : Takes X W)
    (hT : ∀ s b, tbl.lookup s = some b → ∀ a, PySem.W.nsIn X.K mainGlobals (Str.ofString s) = some (some (.ref a)) → PySem.W.exmOne X.K (.ref a) c = some b)
    (hb : ∀ (W : WX) (pn : List (Addr × Obj)) (xe : Value → Shared → Prop), Takes (X.tr pn xe) W → SsD (X.tr pn xe) C W body g)
    (hsu : ∀ (a : Addr) (oe : Obj) (cls : Value) (d : Option Addr) (pn : List (Addr × Obj)) (C' : Ct) (x : Xn), C'.xa = some a → C'.A = none → XcOk X.K C' x cls d → Zc cls d oe → (∃ vs, oe.data = .fields vs) → SsD (X.suite a ((a, oe) :: pn)) C' W0 (b₀ :: suite) (su x)) :
    StD X C W (.Try body [.ExceptHandler (some (.Name x np)) (some n) (b₀ :: suite) pos'] [] [] pos) (mTry i tbl g su) := by
  refine ⟨_, ps_try_as (tb := fun W' => canS X.K C W' g) (ts := fun a cls d D σ H => ∃ (C' : Ct) (F : Hp) (ε : List Ent) (x : Xn), C'.xa = some a ∧ C'.A = none ∧ XcOk X.K C' x cls d ∧ Rep X.K C' F H σ ε ∧ GoodS X.K C' W0 F D (su x ε)) (Wout := W) hs hf hN hi hln hc tk (fun W' pn xe tk' _ => (hb W' pn xe tk').can) (fun a oe cls d pn hz hfv => ⟨fun pins st σ H D I h => ?_⟩), fun F H σ ε D R q => ?_⟩
  · obtain ⟨C', F, ε, x, h1, h2, h3, R, q⟩ := h
    exact ((hsu a oe cls d pn C' x h1 h2 h3 hz hfv).can).run pins st σ H D I ⟨F, ε, R, q⟩
  · refine ⟨F, ε, R, ?_⟩
    unfold mTry at q
    cases hg : g ε with
    | none => rw [hg] at q; exact q
    | some r =>
      rw [hg] at q
      cases r with
      | nx e => exact q
      | rt d e => exact q
      | ro d e => exact q
      | bk e => exact q
      | ct e => exact q
      | ex x e =>
        intro c1 od F1 H1 σ1 R1 s1 rx
        dsimp only at q
        obtain ⟨a1, rfl, hn⟩ := rx.cls
        cases ht : tbl.lookup x.cls with
        | none => rw [ht] at q; exact q.elim
        | some b =>
          rw [ht] at q
          refine ⟨b, hT _ _ ht a1 hn, fun hb => ?_, fun hb => ?_⟩
          · subst hb
            intro a ha
            dsimp only at q
            rcases rx.fs with ⟨e1, e2⟩ | ⟨dd, vs, e1, e2, e3⟩
            · refine ⟨⟨F1, C.H0, C.A, some a⟩, F1, _, x, rfl, hA, ⟨⟨a1, rfl, hn⟩, .inl ⟨e1, e2⟩⟩, R1.toSuite i a R1.keep R1.tr (fun l vs _ h => h), ?_⟩
              exact after_good R1.ff R1.old (fun b o h _ => h) (fun b h => h) s1 q
            · have h0 : ∀ b o, C.H0 b = some o → (upd C.H0 dd (.xd vs)) b = some o := fun b o h => by
                by_cases hb : b = dd
                · subst hb
                  have := R1.keep b o h (by rw [hA]; exact fun z => by cases z)
                  rw [e2] at this
                  cases this
                  exact upd_same
                · rw [upd_ne hb]; exact h
              have h4 : ∀ b, C.H0 b ≠ none → (upd C.H0 dd (.xd vs)) b ≠ none := fun b h => by
                cases e : C.H0 b with
                | none => exact absurd e h
                | some o => rw [h0 b o e]; exact fun z => by cases z
              refine ⟨⟨F1, upd C.H0 dd (.xd vs), C.A, some a⟩, F1, _, x, rfl, hA, ⟨⟨a1, rfl, hn⟩, .inr ⟨dd, vs, e1, upd_same, e3⟩⟩, R1.toSuite i a (fun b o h n => ?_) (fun b h => ?_) (fun l us k1 k2 => ?_), ?_⟩
              · by_cases hb : b = dd
                · subst hb; rw [upd_same] at h; cases h; exact e2
                · rw [upd_ne hb] at h; exact R1.keep b o h n
              · by_cases hb : b = dd
                · subst hb; rw [e2]; exact fun z => by cases z
                · rw [upd_ne hb] at h; exact R1.tr b h
              · rw [upd_ne (show l ≠ dd from fun z => by rw [z, e2] at k1; cases k1)]; exact k2
              · exact after_good R1.ff R1.old (fun b o h _ => h0 b o h) h4 s1 q
          · subst hb
            exact q (.ref a1) od F1 H1 σ1 R1 s1 rx
end
end DL

set_option Elab.async false
set_option linter.all false
set_option maxRecDepth 100000
/-! what a suite asks of its exception; raise -/
namespace DL
open PySem PySem.Spec L2
theorem RepF.get {K : PySem.W.Frag} {F : Hp} {f : Str} {d : D} : ∀ {vs : List (Str × V)} {ds : List (Str × D)}, RepF K F vs ds → ds.lookup f = some d → ∃ v, vs.lookup f = some v ∧ RepD K F v d
  | [], [], _, h => by cases h
  | (x, v) :: r, (y, e) :: s, h, q => by
    obtain ⟨rfl, h1, h2⟩ := h
    rw [List.lookup_cons] at q ⊢
    cases hb : f == x with
    | true => rw [hb] at q; cases q; exact ⟨v, rfl, h1⟩
    | false => rw [hb] at q; exact RepF.get h2 q
  | [], _ :: _, h, _ => h.elim
  | _ :: _, [], h, _ => h.elim
theorem RepF.mono {K : PySem.W.Frag} {F F' : Hp} (s : Same F F') : ∀ {vs : List (Str × V)} {ds : List (Str × D)}, RepF K F vs ds → RepF K F' vs ds
  | [], [], _ => trivial
  | (_, _) :: _, (_, _) :: _, h => ⟨h.1, h.2.1.mono s, RepF.mono s h.2.2⟩
  | [], _ :: _, h => h.elim
  | _ :: _, [], h => h.elim
theorem XcOk.xd {K : PySem.W.Frag} {C : Ct} {x : Xn} {cls : Value} {d : Option Addr} (h : XcOk K C x cls d) (hA : C.A = none) {F H : Hp} {σ : St} {ε : List Ent} (R : Rep K C F H σ ε) : XdOk H d := fun dd hd => by
  rcases h.fs with ⟨e, _⟩ | ⟨d2, vs, e, e2, _⟩
  · rw [e] at hd; cases hd
  · rw [e] at hd; cases hd
    exact ⟨vs, R.keep _ _ e2 (by rw [hA]; exact fun z => by cases z)⟩
section
variable {X : Cx} {a : Addr} {oe : Obj} {cls : Value} {d : Option Addr} {pn : List (Addr × Obj)} {C : Ct} {W : WX} {x : Xn} {e e1 e2 : Expr} {pos : Pos}
def mIsX (i : Nat) (b : Bool) : Mo D := fun ε => match ε[i]? with
  | some .xc => some (.ok (.bl b) ε)
  | _ => none
theorem mIsX_good {i : Nat} {b : Bool} {ε : List Ent} {p : D → List Ent → Prop} {q : Xn → List Ent → Prop} (h : Good (mIsX i b ε) p q) : ε[i]? = some .xc ∧ p (.bl b) ε := by
  unfold mIsX at h
  split at h
  · rename_i he; exact ⟨he, h⟩
  · exact h.elim
theorem ev_isX {i : Nat} {b : Bool} {v : V} {cv : Value} (hxa : C.xa = some a) (hA : C.A = none) (hX : XcOk X.K C x cls d) (hz : Zc cls d oe) (hf : ∃ vs, oe.data = .fields vs) (T : ∀ c, cls = .ref c → ExcC X.K c ∧ PySem.W.kitOne X.K (.ref c) cv = some b) (hcv : ∀ u, RelV v u → u = cv)
    (pp : PA (X.suite a ((a, oe) :: pn)) [e1, e2] (tCons (tVar i) (tCons (tC v) tNil))) (hp : ∀ r ta, CallR (X.suite a ((a, oe) :: pn)) (.builtin "isinstance") r → PA (X.suite a ((a, oe) :: pn)) [e1, e2] ta → PE (X.suite a ((a, oe) :: pn)) e (tCB r ta)) : EvD (X.suite a ((a, oe) :: pn)) C W e (mIsX i b) := by
  obtain ⟨c, hc, _⟩ := hX.cls
  obtain ⟨t1, t2⟩ := T c hc
  refine ⟨_, hp _ _ (call_isX t1 (hc ▸ hz) hf) pp, fun F H σ ε Q R q => ?_⟩
  obtain ⟨he, q⟩ := mIsX_good q
  obtain ⟨a', h1, h2⟩ := R.ent i _ he
  rw [hxa] at h1
  cases h1
  exact ⟨.ref a, h2, v, cv, b, rfl, hX.xd hA R, hcv, t2, q (.bl b) F H R Stp.refl (.bl b)⟩
theorem ev_isXT {i : Nat} {b : Bool} {cs : List V} {us : List Value} {tcs : TA} (hxa : C.xa = some a) (hA : C.A = none) (hX : XcOk X.K C x cls d) (hz : Zc cls d oe) (hf : ∃ vs, oe.data = .fields vs) (T : ∀ c, cls = .ref c → ExcC X.K c ∧ PySem.W.kitAny X.K (.ref c) us = some b) (hcv : ∀ vs, Vals cs vs → vs = us) (hl : cs.length ≤ sizeLine)
    (pp : PA (X.suite a ((a, oe) :: pn)) [e1, e2] (tCons (tVar i) (tCons (tTup tcs) tNil))) (ht : ∀ σ H Q, Q cs H → tcs σ H Q) (hp : ∀ r ta, CallR (X.suite a ((a, oe) :: pn)) (.builtin "isinstance") r → PA (X.suite a ((a, oe) :: pn)) [e1, e2] ta → PE (X.suite a ((a, oe) :: pn)) e (tCB r ta)) : EvD (X.suite a ((a, oe) :: pn)) C W e (mIsX i b) := by
  obtain ⟨c, hc, _⟩ := hX.cls
  obtain ⟨t1, t2⟩ := T c hc
  refine ⟨_, hp _ _ (call_isXT t1 (hc ▸ hz) hf) pp, fun F H σ ε Q R q => ?_⟩
  obtain ⟨he, q⟩ := mIsX_good q
  obtain ⟨a', h1, h2⟩ := R.ent i _ he
  rw [hxa] at h1
  cases h1
  refine ⟨.ref a, h2, ht _ _ _ ⟨hl, fun p hp => ?_⟩⟩
  exact ⟨p, cs, us, b, rfl, hX.xd hA (R.loose _ hp), upd_same, hcv, t2, q (.bl b) F _ (R.loose _ hp) (Ste.loose R.fh hp).stp (.bl b)⟩
def mXf (i : Nat) (x : Xn) (f : Str) : Mo D := fun ε => match ε[i]? with
  | some .xc => (match x.fs.lookup f with
    | some d => some (.ok d ε)
    | none => none)
  | _ => none
theorem ev_xf {i : Nat} {f : Str} (hxa : C.xa = some a) (hA : C.A = none) (hX : XcOk X.K C x cls d) (T : ∀ c, cls = .ref c → ∀ te, PE (X.suite a ((a, oe) :: pn)) e1 te → PE (X.suite a ((a, oe) :: pn)) e (tXf a cls d c f te)) (p1 : PE (X.suite a ((a, oe) :: pn)) e1 (tVar i)) : EvD (X.suite a ((a, oe) :: pn)) C W e (mXf i x f) := by
  obtain ⟨c, hc, _⟩ := hX.cls
  refine ⟨_, T c hc _ p1, fun F H σ ε Q R q => ?_⟩
  unfold mXf at q
  split at q
  · rename_i he
    cases hl : x.fs.lookup f with
    | none => rw [hl] at q; exact q.elim
    | some dv =>
      rw [hl] at q
      obtain ⟨a', h1, h2⟩ := R.ent i _ he
      rw [hxa] at h1
      cases h1
      rcases hX.fs with ⟨_, e2⟩ | ⟨dd, vs, e1, e2, e3⟩
      · rw [e2] at hl; cases hl
      · obtain ⟨v, k1, k2⟩ := (e3.mono R.ff).get hl
        exact ⟨.ref a, h2, rfl, hc, dd, vs, v, e1, R.keep _ _ e2 (by rw [hA]; exact fun z => by cases z), k1, q v F H R Stp.refl k2⟩
  · exact q.elim
end
/-! ### raise X(e): the class's __init__ keeps e in a field -/
def spInit (C : Addr) (f : Str) : Sp := fun vs H Q _ => ∃ (a : Addr) (v : V), vs = [.ref a, v] ∧ H a = some (exo a C none) ∧ ∀ dx, H dx = none → dx ≠ a → Q .non (upd (upd H dx (exd dx [(f, v)])) a (exo a C (some dx)))
theorem ok_init {P : Program} {w : World} {K : PySem.W.Frag} {mg : Str → Option Value} {base : Heap} {x qual : Str} {st : Stmt} {fI C : Addr} {fd : FuncData} {N ps : List Str} {f : Str} (F : Fun K x qual st fI fd) (S : FnScope N ps (defScope st)) (hn : N.length = 2) (hps : ps.length = 2) (hO : OexC K C) (hno : PySem.W.findIn K (.ref C) f = some none)
    (hb : ∀ (cdv : Value) (A : Around) (outer : List Env) (s : Shared) (H : Hp) (E : XK), PSs (cxOf CX0 P w K mg base N qual (defScope st) fI cdv A outer s H E).nox (defBody st) (tOst K f (tVar 0) (tVar 1))) : FnOk P w K mg base CX0 1 fI fd ps (spInit C f) := by
  refine F.ok (k := 0) S (fun vs H Q E h => ?_) (fun cdv A outer s H vs Q E hr h => ⟨_, hb cdv A outer s H E, ?_⟩)
  · obtain ⟨a, v, rfl, _⟩ := h
    exact hps.symm
  · obtain ⟨a, v, rfl, h1, h2⟩ := h
    refine ⟨v, ?_, .ref a, ?_, a, C, rfl, hO, hno, .inl ⟨h1, fun dx k1 k2 => h2 dx k1 k2⟩⟩
    · unfold L2.start; simp
    · unfold L2.start; simp
def mRaise1 (cls : String) (f : Str) (g : Mo (List D)) : MoS := mThen g fun ds ε => match ds with
  | [d] => some (.ex ⟨cls, [(f, d)]⟩ ε)
  | _ => none
theorem st_raise1 {X : Cx} {Ct' : Ct} {W : WX} {cls : String} {f : Str} {C fI : Addr} {fd : FuncData} {ps : List Str} {x : Str} {p pos pos2 : Pos} {e : Expr} {g : Mo (List D)} (hc : X.calm = true) (tk : Takes X W) (T : OexC X.K C) (hi : PySem.W.findIn X.K (.ref C) "__init__" = some (some (.ref fI))) (ht : PySem.W.typeIn X.K (.ref fI) = some (.type "function"))
    (F1 : FnOk X.prog X.w X.K X.mg X.base CX0 1 fI fd ps (spInit C f)) (hr : Room 2 X.A) (hb : Binds X.K fd ps []) (hg : Gl X x) (hm : X.mg x = some (.ref C)) (hn : PySem.W.nsIn X.K mainGlobals (Str.ofString cls) = some (some (.ref C))) (ha : EaD X Ct' W [e] g)
    (hdb : (x == Str.ofString "__debug__") = false := by decide) (he : starEach (e :: []) X.env = (false, eval e X.env) :: starEach [] X.env := by rfl) (hpl : (backTo pos (starEach [] X.env)).any (·.1) = false := by rfl) :
    StD X Ct' W (.Raise (some (.Call (.Name x p) [e] [] pos)) none pos2) (mRaise1 cls f g) := by
  obtain ⟨ta, p1, s1⟩ := ha
  refine ⟨_, ps_raise hc tk (pmk_oex (ds := []) (dvs := []) T hi ht F1 hr hb .nil pass0 hg hm p1 hdb he hpl), fun F H σ ε D R q => ?_⟩
  refine s1 F H σ ε _ R ((then_good q).imp (fun ds e1 q1 vs F1 H1 R1 st1 r1 => ?_) fun x e z => z)
  cases r1 with
  | nil => exact q1.elim
  | cons rv rr =>
    cases rr with
    | cons _ _ => exact q1.elim
    | nil =>
      rename_i v d
      refine ⟨by simp, fun a ha => ?_⟩
      refine ⟨a, v, rfl, upd_same, fun dx hdx hne => ⟨rfl, dx, [(f, v)], upd_same, by rw [upd_ne hne, upd_same], ?_, ?_⟩⟩
      · rw [upd_ne hne] at hdx; exact hdx
      · have hdx' : H1 dx = none := by rw [upd_ne hne] at hdx; exact hdx
        have eH : upd (L2.del (upd (upd (upd H1 a (exo a C none)) dx (exd dx [(f, v)])) a (exo a C (some dx))) a) dx (.xd [(f, v)]) = upd H1 dx (.xd [(f, v)]) := by
          funext b
          by_cases h1 : b = dx
          · subst h1; rw [upd_same, upd_same]
          · rw [upd_ne h1, upd_ne h1]
            unfold L2.del
            by_cases h2 : b = a
            · subst h2; rw [if_pos rfl]; exact ha.symm
            · rw [if_neg h2, upd_ne h2, upd_ne h1, upd_ne h2]
        rw [eH]
        exact q1 (.ref C) (some dx) F1 _ σ (R1.loose _ hdx') st1.ff ⟨⟨C, rfl, hn⟩, .inr ⟨dx, [(f, v)], rfl, upd_same, rfl, rv, trivial⟩⟩
/-- a statement that is never reached -/
theorem st_never {X : Cx} {C : Ct} {W : WX} {s : Stmt} : StD X C W s (fun _ => none) := ⟨_, ps_never, fun F H σ ε D R q => q.elim⟩
end DL

set_option Elab.async false
set_option linter.all false
set_option maxRecDepth 100000
/-! by tables: which class answers what -/
namespace DL
open PySem PySem.Spec L2
/-- what holds of the class that a name of the table names -/
def TblOk (K : PySem.W.Frag) (tbl : List (String × Bool)) (p : Addr → Bool → Prop) : Prop := ∀ s b, tbl.lookup s = some b → ∀ a, PySem.W.nsIn K mainGlobals (Str.ofString s) = some (some (.ref a)) → p a b
theorem tbl_nil {K : PySem.W.Frag} {p : Addr → Bool → Prop} : TblOk K [] p := fun _ _ h => by cases h
theorem tbl_cons {K : PySem.W.Frag} {p : Addr → Bool → Prop} {s : String} {b : Bool} {tbl : List (String × Bool)} {C : Addr} (hn : PySem.W.nsIn K mainGlobals (Str.ofString s) = some (some (.ref C))) (h : p C b) (r : TblOk K tbl p) : TblOk K ((s, b) :: tbl) p := fun s' b' hl a ha => by
  rw [List.lookup_cons] at hl
  cases hs : s' == s with
  | true =>
    rw [hs] at hl
    cases hl
    rw [eq_of_beq hs, hn] at ha
    cases ha
    exact h
  | false =>
    rw [hs] at hl
    exact r s' b' hl a ha
theorem ev_never {X : Cx} {C : Ct} {W : WX} {e : Expr} : EvD X C W e (fun _ => none) := ⟨fun _ _ _ => False, ⟨fun _ _ _ _ _ _ h => h.elim⟩, fun F H σ ε Q R q => q.elim⟩
def mIsT (i : Nat) (tbl : List (String × Bool)) (x : Xn) : Mo D := match tbl.lookup x.cls with
  | some b => mIsX i b
  | none => fun _ => none
def mXfT (i : Nat) (tbl : List (String × Bool)) (f : Str) (x : Xn) : Mo D := match tbl.lookup x.cls with
  | some _ => mXf i x f
  | none => fun _ => none
section
variable {X : Cx} {a : Addr} {oe : Obj} {cls : Value} {d : Option Addr} {pn : List (Addr × Obj)} {C : Ct} {W : WX} {x : Xn} {e e1 e2 : Expr} {pos : Pos} {tbl : List (String × Bool)}
theorem ev_isT1 {i : Nat} {v : V} {cv : Value} (hxa : C.xa = some a) (hA : C.A = none) (hX : XcOk X.K C x cls d) (hz : Zc cls d oe) (hf : ∃ vs, oe.data = .fields vs) (T : TblOk X.K tbl fun c b => ExcC X.K c ∧ PySem.W.kitOne X.K (.ref c) cv = some b) (hcv : ∀ u, RelV v u → u = cv)
    (pp : PA (X.suite a ((a, oe) :: pn)) [e1, e2] (tCons (tVar i) (tCons (tC v) tNil))) (hp : ∀ r ta, CallR (X.suite a ((a, oe) :: pn)) (.builtin "isinstance") r → PA (X.suite a ((a, oe) :: pn)) [e1, e2] ta → PE (X.suite a ((a, oe) :: pn)) e (tCB r ta)) : EvD (X.suite a ((a, oe) :: pn)) C W e (mIsT i tbl x) := by
  unfold mIsT
  cases hl : tbl.lookup x.cls with
  | none => exact ev_never
  | some b =>
    refine ev_isX hxa hA hX hz hf (fun c hc => ?_) hcv pp hp
    obtain ⟨c2, h1, h2⟩ := hX.cls
    rw [hc] at h1
    cases h1
    exact T _ _ hl _ h2
theorem ev_isTT {i : Nat} {cs : List V} {us : List Value} {tcs : TA} (hxa : C.xa = some a) (hA : C.A = none) (hX : XcOk X.K C x cls d) (hz : Zc cls d oe) (hf : ∃ vs, oe.data = .fields vs) (T : TblOk X.K tbl fun c b => ExcC X.K c ∧ PySem.W.kitAny X.K (.ref c) us = some b) (hcv : ∀ vs, Vals cs vs → vs = us) (hl : cs.length ≤ sizeLine)
    (pp : PA (X.suite a ((a, oe) :: pn)) [e1, e2] (tCons (tVar i) (tCons (tTup tcs) tNil))) (ht : ∀ σ H Q, Q cs H → tcs σ H Q) (hp : ∀ r ta, CallR (X.suite a ((a, oe) :: pn)) (.builtin "isinstance") r → PA (X.suite a ((a, oe) :: pn)) [e1, e2] ta → PE (X.suite a ((a, oe) :: pn)) e (tCB r ta)) : EvD (X.suite a ((a, oe) :: pn)) C W e (mIsT i tbl x) := by
  unfold mIsT
  cases hk : tbl.lookup x.cls with
  | none => exact ev_never
  | some b =>
    refine ev_isXT hxa hA hX hz hf (fun c hc => ?_) hcv hl pp ht hp
    obtain ⟨c2, h1, h2⟩ := hX.cls
    rw [hc] at h1
    cases h1
    exact T _ _ hk _ h2
theorem ev_xfT {i : Nat} {f : Str} (hxa : C.xa = some a) (hA : C.A = none) (hX : XcOk X.K C x cls d) (hz : Zc cls d oe) (hf : ∃ vs, oe.data = .fields vs) (T : TblOk X.K tbl fun c _ => XfC X.K c ∧ PySem.W.findIn X.K (.ref c) f = some none) (p1 : PE (X.suite a ((a, oe) :: pn)) e1 (tVar i))
    (hb : attributeBase e1 f X.env (eval e1 X.env) = eval e1 X.env := by rfl) : EvD (X.suite a ((a, oe) :: pn)) C W (.Attribute e1 f pos) (mXfT i tbl f x) := by
  unfold mXfT
  cases hk : tbl.lookup x.cls with
  | none => exact ev_never
  | some b =>
    refine ev_xf hxa hA hX (fun c hc te p => ?_) p1
    obtain ⟨c2, h1, h2⟩ := hX.cls
    rw [hc] at h1
    cases h1
    obtain ⟨k1, k2⟩ := T _ _ hk _ h2
    exact pe_xf k1 k2 hz hf p hb
end
/-- a list of classes: their values -/
theorem vals_refs : ∀ (cs : List Addr) (vs : List Value), Vals (cs.map V.ref) vs → vs = cs.map Value.ref
  | [], vs, h => by cases h; rfl
  | c :: r, vs, h => by
    cases h with
    | cons h1 h2 =>
      cases h1
      rw [vals_refs r _ h2]
      rfl
end DL

set_option Elab.async false
set_option linter.all false
set_option maxRecDepth 100000
/-! raise X(), X an own class without __init__ -/
namespace DL
open PySem PySem.Spec L2
theorem pmk_own0 {X : Cx} {C : Addr} {bmB : List Value} {B newId initId : String} {x : Str} {p pos : Pos} (F : ExcBaseFacts B newId initId bmB) (q : PySem.W.excIn X.K C bmB newId = true) (gC : X.mg x = some (.ref C)) (kC : PySem.W.keepIn X.K (.ref C) = true) (r : Raises X (.ref C)) (hg : Gl X x) (hd : (x == Str.ofString "__debug__") = false) :
    PMk X (.Call (.Name x p) [] [] pos) fun _ H Q => Q (.ref C) none H := by
  intro pins s σ H Q I h
  refine wpAny_Call_Name_kw (ld_glob I hg gC ?_ hd)
  have key : wpAny (model X.prog X.w) X.A (call (.ref C) []) (MkP X pins σ Q) X.xe s := by
    obtain ⟨bm, N, nm, qn, bs, hdct, sn, sub, ab, col, dd, k0, k1, k2, k3, k5, mN, h1, h2, h3, h4⟩ := exc_obj I.kIn q
    obtain ⟨hp, g, d, t, os⟩ := s
    exact wpAny_call_exc_subT F h4 h1 h2 h3 (fun h' e M => mk_of I M r h (I.hok.gone M.new)) (by simp)
  exact PySem.W.callWith_K0 I.kIn kC key
def mRaise0 (cls : String) : MoS := fun ε => some (.ex ⟨cls, []⟩ ε)
theorem st_raise0 {X : Cx} {Ct' : Ct} {W : WX} {cls : String} {C : Addr} {e : Expr} {pos2 : Pos} (hc : X.calm = true) (tk : Takes X W) (pm : PMk X e fun _ H Q => Q (.ref C) none H) (hn : PySem.W.nsIn X.K mainGlobals (Str.ofString cls) = some (some (.ref C))) : StD X Ct' W (.Raise (some e) none pos2) (mRaise0 cls) :=
  ⟨_, ps_raise hc tk pm, fun F H σ ε D R q => q (.ref C) none F H σ R (Same.refl F) ⟨⟨C, rfl, hn⟩, .inl ⟨rfl, rfl⟩⟩⟩
end DL

set_option Elab.async false
set_option linter.all false
set_option maxRecDepth 100000
namespace DL
open PySem PySem.Spec L2
section
variable {X : Cx} {C : Ct} {W : WX} {a b e : Expr} {pos : Pos} {f g : Mo D}
/-! ### a written dict of the module, its keys texts -/
def gKd (tbl : List (Str × D)) : D → Option D
  | .str z => tbl.lookup z
  | _ => none
def KdOk (K : PySem.W.Frag) (w : World) (p : Addr) (tbl : List (Str × D)) : Prop := ∀ z d, tbl.lookup z = some d → ∃ v, KDct K w p z v ∧ ∀ F, RepD K F v d
theorem kd_nil {K : PySem.W.Frag} {w : World} {p : Addr} : KdOk K w p [] := fun z d h => by cases h
theorem kd_cons {K : PySem.W.Frag} {w : World} {p : Addr} {x : Str} {c : D} {v : V} {u : Value} {es : Array DictEntry} {n : Nat} {tbl : List (Str × D)} (hl : K.lookup p = some ⟨.type "dict", none, .dict es n, #[]⟩) (hk : PySem.W.KeysLit w.params es.toList) (h : PySem.W.nsIn K p x = some (some u)) (hr : RelV v u) (hd : ∀ F, RepD K F v c) (r : KdOk K w p tbl) : KdOk K w p ((x, c) :: tbl) := fun z d q => by
  rw [List.lookup_cons] at q
  by_cases hz : (z == x) = true
  · rw [hz] at q
    have : c = d := Option.some.inj q
    subst this
    rw [eq_of_beq hz]
    exact ⟨v, ⟨es, n, u, hl, hk, h, hr⟩, hd⟩
  · have h0 : (z == x) = false := by simpa using hz
    rw [h0] at q
    exact r z d q
theorem ev_kd {p : Addr} {tbl : List (Str × D)} (ha : PE X a (tC (.ref p))) (hk : KdOk X.K X.w p tbl) (hs : PlainIx b) (hb : EvD X C W b g) : EvD X C W (.Subscript a b pos) (mUn (gKd tbl) g) := by
  obtain ⟨tb, pb, sb⟩ := hb
  refine ⟨_, pe_ix ix_kdict ha pb hs, fun F H σ ε Q R q => ?_⟩
  show tb σ H _
  refine sb F H σ ε _ R (q.bind.imp (fun d e q1 v F1 H1 R1 st1 r1 => ?_) fun x e z => z)
  unfold lft at q1
  cases hg : gKd tbl d with
  | none => rw [hg] at q1; exact q1.elim
  | some c =>
    rw [hg] at q1
    cases d with
    | str z =>
      have := rep_str r1
      subst this
      obtain ⟨w, k1, k2⟩ := hk z c hg
      exact ⟨p, z, w, rfl, rfl, k1, q1 w F1 H1 R1 st1 (k2 F1)⟩
    | _ => cases hg
/-! ### a call of a local name that holds a def of the module -/
structure DefOk (P : Program) (w : World) (K : PySem.W.Frag) (mg : Str → Option Value) (base : Heap) (k n : Nat) (x : Str) (m : List D → Option Ans) : Prop where
  ex : ∃ (f : Addr) (fd : FuncData) (ps : List Str), PySem.W.nsIn K mainGlobals x = some (some (.ref f)) ∧ FnOk P w K mg base (L2.CX P w) k f fd ps (SpP K n m) ∧ PySem.W.keepIn K (.ref f) = true ∧ Binds K fd ps []
def TabD (P : Program) (w : World) (K : PySem.W.Frag) (mg : Str → Option Value) (base : Heap) (k n : Nat) (tbl : List (Str × (List D → Option Ans))) : Prop := ∀ x m, tbl.lookup x = some m → DefOk P w K mg base k n x m
theorem td_nil {P : Program} {w : World} {K : PySem.W.Frag} {mg : Str → Option Value} {base : Heap} {k n : Nat} : TabD P w K mg base k n [] := fun z d h => by cases h
theorem td_cons {P : Program} {w : World} {K : PySem.W.Frag} {mg : Str → Option Value} {base : Heap} {k n : Nat} {x : Str} {m : List D → Option Ans} {tbl : List (Str × (List D → Option Ans))} (h : DefOk P w K mg base k n x m) (r : TabD P w K mg base k n tbl) : TabD P w K mg base k n ((x, m) :: tbl) := fun z d q => by
  rw [List.lookup_cons] at q
  by_cases hz : (z == x) = true
  · rw [hz] at q
    have : m = d := Option.some.inj q
    subst this
    rw [eq_of_beq hz]
    exact h
  · have h0 : (z == x) = false := by simpa using hz
    rw [h0] at q
    exact r z d q
def tCallT (K : PySem.W.Frag) (i n : Nat) (tbl : List (Str × (List D → Option Ans))) (E : St → XK) (t : TA) : TE := fun σ H Q => ∃ f x m, σ[i]? = some (some (.ref f)) ∧ PySem.W.nsIn K mainGlobals x = some (some (.ref f)) ∧ tbl.lookup x = some m ∧ t σ H fun vs H1 => SpP K n m vs H1 Q (E σ)
theorem pe_callT {k i n : Nat} {tbl : List (Str × (List D → Option Ans))} {E : St → XK} {x : Str} {p pos : Pos} {e : Expr} {es : List Expr} {t : TA} (hT : TabD X.prog X.w X.K X.mg X.base k n tbl) (hr : Room k X.A) (hv : PE X (.Name x p) (tVar i)) (hx : ∀ σ, PassesAt (L2.CX X.prog X.w) X σ (E σ)) (ha : PA X (e :: es) t)
    (he : starEach (e :: es) X.env = (false, eval e X.env) :: starEach es X.env := by rfl) (hpl : (backTo pos (starEach es X.env)).any (·.1) = false := by rfl) : PE X (.Call (.Name x p) (e :: es) [] pos) (tCallT X.K i n tbl E t) := by
  refine ⟨fun pins s σ H Q I h => ?_⟩
  obtain ⟨f, y, m, hs, hn, hm, ht⟩ := h
  obtain ⟨f', fd, ps, hn', F, hk, hb⟩ := (hT y m hm).ex
  rw [hn] at hn'
  cases hn'
  refine wpAny_Call_Name_kw (thn (hv.run pins s σ H (fun v H1 => v = .ref f ∧ H1 = H) I ⟨.ref f, hs, rfl, rfl⟩) fun u s1 ⟨v, H1, I1, r1, q1⟩ => ?_)
  obtain ⟨rfl, rfl⟩ := q1
  cases r1
  refine PySem.W.callWith_K (h₀ := X.base) I.ok.mod.kin hk (thn (ha.run pos pins s1 σ _ _ I1 ht) fun us s2 ⟨vs, H2, I2, r, q⟩ => ⟨I2.kIn, ?_⟩) he hpl
  exact run_fnSD F hr hb .nil (hx σ) I2 r (by rw [List.append_nil]; exact q)
def mCallL (i n : Nat) (tbl : List (Str × (List D → Option Ans))) (f : Mo (List D)) : Mo D := fun ε => match ε[i]? with
  | some (.dat (.fn x)) => (match tbl.lookup x with
    | some m => mFn n m f ε
    | none => none)
  | _ => none
theorem ev_loc {i n : Nat} {tbl : List (Str × (List D → Option Ans))} {es : List Expr} {fs : Mo (List D)} {E : St → XK} (hE : E = WE W) (ha : EaD X C W es fs) (hp : ∀ ta, PA X es ta → PE X e (tCallT X.K i n tbl E ta)) : EvD X C W e (mCallL i n tbl fs) := by
  subst hE
  obtain ⟨ta, p1, s1⟩ := ha
  refine ⟨_, hp _ p1, fun F H σ ε Q R q => ?_⟩
  unfold mCallL at q
  cases he : ε[i]? with
  | none => rw [he] at q; exact q.elim
  | some z =>
    rw [he] at q
    cases z with
    | dat d =>
      cases d with
      | fn x =>
        dsimp only at q
        cases hm : tbl.lookup x with
        | none => rw [hm] at q; exact q.elim
        | some m =>
          rw [hm] at q
          dsimp only at q
          obtain ⟨v, h1, h2⟩ := R.ent i _ he
          cases h2 with
          | fn hn =>
            refine ⟨_, x, m, h1, hn, hm, ?_⟩
            refine s1 F H σ ε _ R (q.bind.imp (fun ds e q1 vs F1 H1 R1 st1 r1 => ?_) fun x e z => z)
            by_cases hl : ds.length = n
            · rw [if_pos hl] at q1
              refine ⟨by rw [r1.length]; exact hl, F1, ds, R1.fh, r1, ?_⟩
              unfold ansM at q1
              cases hmm : m ds with
              | none => rw [hmm] at q1; exact q1.elim
              | some an =>
                rw [hmm] at q1
                cases an with
                | ret d => exact fun v F' H' st r => q1 v F' H' (R1.step st) (st1.trans st.stp) r
                | exc x => exact fun c od F' H' st r => q1 c od F' H' (R1.step st) (st1.trans st.stp) r
            · rw [if_neg hl] at q1; exact q1.elim
      | _ => exact q.elim
    | _ => exact q.elim
theorem cl_loc {k i n : Nat} {tbl : List (Str × (List D → Option Ans))} {x : Str} {p pos : Pos} {e : Expr} {es : List Expr} {fs : Mo (List D)} (hT : TabD X.prog X.w X.K X.mg X.base k n tbl) (tk : Takes X W) (hr : Room k X.A) (hv : PE X (.Name x p) (tVar i))
    (ha : EaD X C W (e :: es) fs) (he : starEach (e :: es) X.env = (false, eval e X.env) :: starEach es X.env := by rfl) (hpl : (backTo pos (starEach es X.env)).any (·.1) = false := by rfl) :
    EvD X C W (.Call (.Name x p) (e :: es) [] pos) (mCallL i n tbl fs) := ev_loc rfl ha fun _ pa => pe_callT hT hr hv (fun σ => passAt tk σ) pa he hpl
/-! ### f() -/
theorem pe_callZ {k : Nat} {f : Addr} {fd : FuncData} {ps : List Str} {sp : Sp} {E : St → XK} {x : Str} {p pos : Pos} (F : FnOk X.prog X.w X.K X.mg X.base (L2.CX X.prog X.w) k f fd ps sp) (hr : Room k X.A) (hg : Gl X x) (hm : X.mg x = some (.ref f)) (hk : PySem.W.keepIn X.K (.ref f) = true) (hb : Binds X.K fd ps []) (hx : ∀ σ, PassesAt (L2.CX X.prog X.w) X σ (E σ))
    (hdb : (x == ("__debug__" : Str)) = false := by decide) : PE X (.Call (.Name x p) [] [] pos) (tCallS sp E tNil) := by
  refine ⟨fun pins s σ H Q I h => ?_⟩
  refine wpAny_Call_Name_kw (ld_glob I hg hm ?_ hdb)
  exact PySem.W.callWith_K0 I.kIn hk (run_fnS (us := []) F hr hb (hx σ) I .nil h)
theorem cl_fn0 {k n : Nat} {f : Addr} {fd : FuncData} {ps : List Str} {m : List D → Option Ans} {x : Str} {p pos : Pos} (F : FnOk X.prog X.w X.K X.mg X.base (L2.CX X.prog X.w) k f fd ps (SpP X.K n m)) (tk : Takes X W) (hr : Room k X.A) (hg : Gl X x) (hm : X.mg x = some (.ref f)) (hk : PySem.W.keepIn X.K (.ref f) = true) (hb : Binds X.K fd ps [])
    (hdb : (x == ("__debug__" : Str)) = false := by decide) : EvD X C W (.Call (.Name x p) [] [] pos) (mFn n m (pur [])) := by
  refine ⟨_, pe_callZ (E := WE W) F hr hg hm hk hb (fun σ => passAt tk σ) hdb, fun F0 H σ ε Q R q => ?_⟩
  have q1 : Good ((if ([] : List D).length = n then ansM (m []) else lft none) ε) _ _ := q
  by_cases hl : ([] : List D).length = n
  · rw [if_pos hl] at q1
    refine ⟨hl, F0, [], R.fh, .nil, ?_⟩
    unfold ansM at q1
    cases hm2 : m [] with
    | none => rw [hm2] at q1; exact q1.elim
    | some an =>
      rw [hm2] at q1
      cases an with
      | ret d => exact fun v F' H' st r => q1 v F' H' (R.step st) st.stp r
      | exc x => exact fun c od F' H' st r => q1 c od F' H' (R.step st) st.stp r
  · rw [if_neg hl] at q1; exact q1.elim
/-! ### s.upper() -/
def gUpper : D → Option D
  | .str x => if x.length ≤ 1000 then some (.str (Txt.upper x)) else none
  | _ => none
theorem ev_upper {apos pos : Pos} (ho : EvD X C W a f) (hbase : attributeBase a "upper" X.env (eval a X.env) = eval a X.env := by rfl) (hline : (apos.endLine == pos.line) = true := by rfl) : EvD X C W (.Call (.Attribute a "upper" apos) [] [] pos) (mUn gUpper f) := by
  obtain ⟨ta, pa, sa⟩ := ho
  refine ⟨_, pe_upper pa hbase hline, fun F H σ ε Q R q => ?_⟩
  refine sa F H σ ε _ R (q.bind.imp (fun d e q1 v F1 H1 R1 st1 r1 => ?_) fun x e z => z)
  unfold lft at q1
  cases hg : gUpper d with
  | none => rw [hg] at q1; exact q1.elim
  | some c =>
    rw [hg] at q1
    cases d with
    | str z =>
      have := rep_str r1
      subst this
      by_cases hl : z.length ≤ 1000
      · simp only [gUpper, hl, if_true, Option.some.injEq] at hg
        subst hg
        exact ⟨⟨_, rfl⟩, _, rfl, rfl, Nat.le_trans hl (by decide), q1 _ F1 H1 R1 st1 (.str _)⟩
      · simp only [gUpper, hl, if_false] at hg
        cases hg
    | _ => cases hg
/-! ### names unpacked from a list -/
def gdLst (is : List Nat) : Tg := ⟨is, fun d => match d with
  | .lst ds => if ds.length = is.length then some ds else none
  | _ => none⟩
theorem sg_lst {K : PySem.W.Frag} {is : List Nat} {n : Nat} (hn : n = is.length) : SdG K (gUnl K n (gNames is)) (gdLst is) := fun F H σ v d ds Q s r e q => by
  unfold gdLst at e
  dsimp only at e
  split at e
  · split at e
    · rename_i hl
      cases e
      obtain ⟨a, xs, rfl, h, r2⟩ := rep_seqs r
      exact ⟨a, xs, rfl, Same.seq s h, by rw [r2.length, hl, hn], gNames_run (by rw [r2.length]; exact hl) (q xs r2)⟩
    · cases e
  · cases e
end
end DL

set_option Elab.async false
set_option linter.all false
set_option maxRecDepth 100000
namespace DL
open PySem PySem.Spec L2
/-! ### dicts of one's own -/
section
variable {K : PySem.W.Frag} {F : Hp} {κ : Type} [DecidableEq κ]
def valQ (qs : List (κ × D)) (k : κ) : Option D := (qs.find? fun kv => decide (kv.1 = k)).map (·.2)
def putQ (qs : List (κ × D)) (k : κ) (d : D) : List (κ × D) :=
  if (qs.any fun kv => decide (kv.1 = k)) = true then qs.map (fun kv => if kv.1 = k then (kv.1, d) else kv) else qs ++ [(k, d)]
theorem RepQ.val : ∀ {kvs : List (κ × V)} {qs : List (κ × D)} {k : κ} {d : D}, RepQ K F kvs qs → valQ qs k = some d → ∃ v, valV kvs k = some v ∧ RepD K F v d
  | [], [], k, d, _, e => by cases e
  | (x, v) :: r, (y, c) :: t, k, d, h, e => by
    obtain ⟨h1, h2, h3⟩ := h
    subst h1
    by_cases hx : x = k
    · subst hx
      simp [valQ] at e
      subst e
      exact ⟨v, by simp [valV], h2⟩
    · have e2 : valQ t k = some d := by simpa [valQ, List.find?_cons, hx] using e
      obtain ⟨w, a, b⟩ := RepQ.val h3 e2
      exact ⟨w, by rw [valV_neg hx]; exact a, b⟩
  | [], _ :: _, _, _, h, _ => h.elim
  | _ :: _, [], _, _, h, _ => h.elim
theorem RepQ.any : ∀ {kvs : List (κ × V)} {qs : List (κ × D)} (k : κ), RepQ K F kvs qs → (kvs.any fun kv => decide (kv.1 = k)) = (qs.any fun kv => decide (kv.1 = k))
  | [], [], _, _ => rfl
  | (x, v) :: r, (y, c) :: t, k, h => by
    obtain ⟨h1, h2, h3⟩ := h
    subst h1
    rw [List.any_cons, List.any_cons, RepQ.any k h3]
  | [], _ :: _, _, h => h.elim
  | _ :: _, [], _, h => h.elim
theorem RepQ.map : ∀ {kvs : List (κ × V)} {qs : List (κ × D)} {k : κ} {v : V} {d : D}, RepQ K F kvs qs → RepD K F v d → RepQ K F (kvs.map fun kv => if kv.1 = k then (kv.1, v) else kv) (qs.map fun kv => if kv.1 = k then (kv.1, d) else kv)
  | [], [], _, _, _, _, _ => trivial
  | (x, w) :: r, (y, c) :: t, k, v, d, h, hd => by
    obtain ⟨h1, h2, h3⟩ := h
    subst h1
    rw [List.map_cons, List.map_cons]
    by_cases hx : x = k
    · simp only [hx, if_true]
      exact ⟨rfl, hd, RepQ.map h3 hd⟩
    · simp only [hx, if_false]
      exact ⟨rfl, h2, RepQ.map h3 hd⟩
  | [], _ :: _, _, _, _, h, _ => h.elim
  | _ :: _, [], _, _, _, h, _ => h.elim
theorem RepQ.snoc : ∀ {kvs : List (κ × V)} {qs : List (κ × D)} {k : κ} {v : V} {d : D}, RepQ K F kvs qs → RepD K F v d → RepQ K F (kvs ++ [(k, v)]) (qs ++ [(k, d)])
  | [], [], _, _, _, _, hd => ⟨rfl, hd, trivial⟩
  | (x, w) :: r, (y, c) :: t, k, v, d, h, hd => ⟨h.1, h.2.1, RepQ.snoc h.2.2 hd⟩
  | [], _ :: _, _, _, _, h, _ => h.elim
  | _ :: _, [], _, _, _, h, _ => h.elim
theorem RepQ.put {kvs : List (κ × V)} {qs : List (κ × D)} {k : κ} {v : V} {d : D} (h : RepQ K F kvs qs) (hd : RepD K F v d) : RepQ K F (putK kvs k v) (putQ qs k d) := by
  unfold putK putQ
  rw [RepQ.any k h]
  split
  · exact RepQ.map h hd
  · exact RepQ.snoc h hd
omit [DecidableEq κ] in
theorem RepQ.length : ∀ {kvs : List (κ × V)} {qs : List (κ × D)}, RepQ K F kvs qs → kvs.length = qs.length
  | [], [], _ => rfl
  | (x, w) :: r, (y, c) :: t, h => by rw [List.length_cons, List.length_cons, RepQ.length h.2.2]
  | [], _ :: _, h => h.elim
  | _ :: _, [], h => h.elim
omit [DecidableEq κ] in
theorem RepQ.zip {kvs : List (κ × V)} {ks : List κ} {ds : List D} (e : kvs.map (·.1) = ks) (r : RepL K F (kvs.map (·.2)) ds) : RepQ K F kvs (ks.zip ds) := by
  have hl := r.length
  rw [List.length_map] at hl
  have hk : ks.length = kvs.length := by rw [← e, List.length_map]
  refine RepQ.of ?_ ?_
  · rw [e, List.map_fst_zip (by omega)]
  · rw [List.map_snd_zip (by omega)]; exact r
end
def keyD : D → Option Key
  | .int i => some (.inl i)
  | .str x => some (.inr x)
  | _ => none
theorem keyD_rep {K : PySem.W.Frag} {F : Hp} {v : V} {d : D} {k : Key} (h : RepD K F v d) (e : keyD d = some k) : v = kV k := by
  cases d with
  | int i => cases e; exact rep_int h
  | str x => cases e; exact rep_str h
  | _ => cases e
section
variable {X : Cx} {C : Ct} {W : WX} {a b e : Expr} {pos : Pos} {f g : Mo D} {s : Stmt}
def mNewB (i : Nat) (b : OB) : MoS := fun ε => some (.nx (ε.set i (.od b)))
theorem st_newK {i : Nat} (hp : ∀ te, PE X (.Dict [] [] pos) te → PS X s (tAsg te (gName i))) : StD X C W s (mNewB i (.dk [])) := by
  refine ⟨_, hp _ pe_dnewK, fun F H σ ε D R q => ?_⟩
  intro p hp0
  obtain ⟨n1, n2, n3⟩ := R.newApart hp0
  exact q F _ _ ((R.loose (.dK []) hp0).setB i upd_same n1 (show RepO X.K F (.dK []) (.dk []) from trivial) n2 n3) (Same.refl F)
theorem st_newT {i : Nat} (hp : ∀ te, PE X (.Dict [] [] pos) te → PS X s (tAsg te (gName i))) : StD X C W s (mNewB i (.dt [])) := by
  refine ⟨_, hp _ pe_dnewT, fun F H σ ε D R q => ?_⟩
  intro p hp0
  obtain ⟨n1, n2, n3⟩ := R.newApart hp0
  exact q F _ _ ((R.loose (.dT []) hp0).setB i upd_same n1 (show RepO X.K F (.dT []) (.dt []) from trivial) n2 n3) (Same.refl F)
/-- what stands in a slot, as a dict with int and text keys -/
def dkAt : Option Ent → Option (List (Key × D))
  | some (.od (.dk qs)) => some qs
  | some (.dat (.dk ks ds)) => some (ks.zip ds)
  | _ => none
theorem dkAt_rep {K : PySem.W.Frag} {C : Ct} {F H : Hp} {σ : St} {ε : List Ent} (R : Rep K C F H σ ε) {i : Nat} {qs : List (Key × D)} (h : dkAt ε[i]? = some qs) : ∃ l kvs, σ[i]? = some (some (.ref l)) ∧ H l = some (.dK kvs) ∧ RepQ K F kvs qs := by
  cases h0 : ε[i]? with
  | none => rw [h0] at h; cases h
  | some e =>
    rw [h0] at h
    cases e with
    | od b =>
      cases b with
      | dk qs' =>
        cases h
        obtain ⟨l, o, q1, q2, q3, q4, q5⟩ := R.ent i _ h0
        cases o with
        | dK kvs => exact ⟨l, kvs, q1, q2, q4⟩
        | _ => exact q4.elim
      | _ => cases h
    | dat d =>
      cases d with
      | dk ks ds =>
        cases h
        obtain ⟨v, q1, q2⟩ := R.ent i _ h0
        cases q2 with
        | dk x1 x2 x3 => exact ⟨_, _, q1, R.fh _ _ x1, RepQ.zip x2 x3⟩
      | _ => cases h
    | _ => cases h
/-- d[k] -/
def mDGet (i : Nat) (f : Mo D) : Mo D := fun ε0 => match dkAt ε0[i]? with
  | none => none
  | some _ => bnd f (fun d ε => match dkAt ε[i]?, keyD d with
    | some qs, some k => (match valQ qs k with
      | some v => some (.ok v ε)
      | none => none)
    | _, _ => none) ε0
theorem ev_dget {i : Nat} (hf : EvD X C W a f) (hp : ∀ ta, PE X a ta → PE X e (tDGet (tVar i) ta)) : EvD X C W e (mDGet i f) := by
  obtain ⟨ta, p1, s1⟩ := hf
  refine ⟨_, hp _ p1, fun F H σ ε Q R q => ?_⟩
  unfold mDGet at q
  cases h0 : dkAt ε[i]? with
  | none => rw [h0] at q; exact q.elim
  | some q0 =>
    rw [h0] at q
    obtain ⟨l, kvs0, a0, _, _⟩ := dkAt_rep R h0
    refine ⟨.ref l, a0, ?_⟩
    refine s1 F H σ ε _ R (q.bind.imp (fun d e q1 v F1 H1 R1 st1 r1 => ?_) fun x e z => z)
    cases h1 : dkAt e[i]? with
    | none => rw [h1] at q1; exact q1.elim
    | some qs =>
      cases h2 : keyD d with
      | none => rw [h1, h2] at q1; exact q1.elim
      | some k =>
        rw [h1, h2] at q1
        dsimp only at q1
        cases h3 : valQ qs k with
        | none => rw [h3] at q1; exact q1.elim
        | some c =>
          rw [h3] at q1
          obtain ⟨l1, kvs, a1, b1, r⟩ := dkAt_rep R1 h1
          rw [a0] at a1
          cases a1
          obtain ⟨w, e1, e2⟩ := r.val h3
          refine ⟨l, w, rfl, ?_, q1 w F1 H1 R1 st1 e2⟩
          rw [keyD_rep r1 h2, ← e1]
          exact DGet.k b1
/-- d[k] = v -/
def mDPut (i : Nat) (fv fk : Mo D) : MoS := mThen fv fun d ε0 => match dkAt ε0[i]? with
  | none => none
  | some _ => mThen fk (fun c ε => match ε[i]?, keyD c with
    | some (.od (.dk qs)), some k => if qs.length < 1000000 then some (.nx (ε.set i (.od (.dk (putQ qs k d))))) else none
    | _, _ => none) ε0
theorem st_dput {i : Nat} {v k : Expr} (hp : ∀ te tk, PE X v te → PE X k tk → PS X s (sDPut (tVar i) tk te)) (hv : EvD X C W v f) (hk : EvD X C W k g) : StD X C W s (mDPut i f g) := by
  obtain ⟨te, p1, s1⟩ := hv
  obtain ⟨tk, p2, s2⟩ := hk
  refine ⟨_, hp _ _ p1 p2, fun F H σ ε D R q => ?_⟩
  refine s1 F H σ ε _ R ((then_good q).imp (fun d e q1 v F1 H1 R1 st1 r1 => ?_) fun x e z => z)
  cases h0 : dkAt e[i]? with
  | none => rw [h0] at q1; exact q1.elim
  | some q0 =>
    rw [h0] at q1
    obtain ⟨l, kvs0, a0, _, _⟩ := dkAt_rep R1 h0
    refine ⟨.ref l, a0, ?_⟩
    refine s2 F1 H1 σ e _ R1 ((then_good (q1.mono st1.ff)).imp (fun c e2 q2 w F2 H2 R2 st2 r2 => ?_) fun x e z => z)
    cases h1 : e2[i]? with
    | none => rw [h1] at q2; exact q2.elim
    | some en =>
      rw [h1] at q2
      cases en with
      | od b =>
        cases b with
        | dk qs =>
          cases h2 : keyD c with
          | none => rw [h2] at q2; exact q2.elim
          | some k =>
            rw [h2] at q2
            dsimp only at q2
            by_cases hl : qs.length < 1000000
            · rw [if_pos hl] at q2
              obtain ⟨l1, o, a1, b1, c1, r, g1⟩ := R2.ent i _ h1
              rw [a0] at a1
              cases a1
              cases o with
              | dK kvs =>
                have r3 : RepQ X.K F2 (putK kvs k v) (putQ qs k d) := RepQ.put r (r1.mono st2.ff)
                have R3 := R2.changeB (o := .dK (putK kvs k v)) (b1 := .dk (putQ qs k d)) h1 rfl a0 r3 (.inl ⟨rfl, rfl⟩)
                refine ⟨l, _, rfl, ?_, q2 F2 _ σ R3 st2.ff⟩
                rw [keyD_rep r2 h2]
                exact DPut.k b1 (Nat.lt_of_lt_of_le (by rw [RepQ.length r]; exact hl) (by decide))
              | _ => exact r.elim
            · rw [if_neg hl] at q2; exact q2.elim
        | _ => exact q2.elim
      | _ => exact q2.elim
end
end DL

set_option Elab.async false
set_option linter.all false
set_option maxRecDepth 100000
namespace DL
open PySem PySem.Spec L2
/-! ### defs whose first argument is an object that they change (a dict, an instance) -/
def SpB (K : PySem.W.Frag) (n : Nat) (m : OB → List D → Option (Ans × OB)) : Sp := fun vs H Q E => vs.length = n ∧ ∃ F l o ws b ds, vs = .ref l :: ws ∧ Same F H ∧ H l = some o ∧ F l = none ∧ RepO K F o b ∧ RepL K F ws ds ∧ match m b ds with
  | some (.ret d, b') => ∀ v F' H' o', Same F F' → Same F' H' → (∀ c u, H c = some u → c ≠ l → H' c = some u) → (∀ c, H c ≠ none → F' c = F c) → H' l = some o' → F' l = none → RepO K F' o' b' → RepD K F' v d → Q v H'
  | some (.exc x, b') => ∀ cc od F' H' o', Same F F' → Same F' H' → (∀ c u, H c = some u → c ≠ l → H' c = some u) → (∀ c, H c ≠ none → F' c = F c) → H' l = some o' → F' l = none → RepO K F' o' b' → RepX K F' H' x cc od → E cc od H'
  | none => False
def envB (n : Nat) (b : OB) (ds : List D) : List Ent := .ib b :: (ds.map .dat ++ List.replicate (n - (ds.length + 1)) .un)
def outB : Option ResS → Option (Ans × OB)
  | some (.nx (.ib b :: _)) => some (.ret .non, b)
  | some (.rt d (.ib b :: _)) => some (.ret d, b)
  | some (.ex x (.ib b :: _)) => some (.exc x, b)
  | _ => none
def runB (n : Nat) (g : MoS) (b : OB) (ds : List D) : Option (Ans × OB) := outB (g (envB n b ds))
theorem rep_startB {K : PySem.W.Frag} {F H : Hp} {l : Addr} {o : HO} {vs : List V} {b : OB} {ds : List D} {N : List Str} (s : Same F H) (h1 : H l = some o) (h2 : F l = none) (h3 : RepO K F o b) (r : RepL K F vs ds) :
    Rep K ⟨F, H, some l, none⟩ F H (L2.start N (.ref l :: vs)) (envB N.length b ds) where
  fh := s
  ff := Same.refl F
  old := fun _ _ => rfl
  keep := fun _ _ h _ => h
  tr := fun _ h => h
  len := by
    have := r.length
    simp only [L2.start, envB, List.length_append, List.length_map, List.length_cons, List.length_replicate]
    omega
  ent := fun i e he => by
    unfold envB at he
    unfold L2.start
    cases i with
    | zero =>
      cases he
      exact ⟨l, o, rfl, h1, h2, h3, rfl⟩
    | succ i =>
      rw [List.getElem?_cons_succ] at he
      rw [List.map_cons, List.cons_append, List.getElem?_cons_succ]
      by_cases hi : i < ds.length
      · rw [List.getElem?_append_left (by rw [List.length_map]; exact hi), List.getElem?_map] at he
        rw [List.getElem?_append_left (by rw [List.length_map, r.length]; exact hi), List.getElem?_map]
        cases hd : ds[i]? with
        | none => rw [hd] at he; cases he
        | some d =>
          rw [hd] at he
          cases he
          obtain ⟨v, h1, h2⟩ := r.get hd
          exact ⟨v, by rw [h1]; rfl, h2⟩
      · rw [List.getElem?_append_right (by rw [List.length_map]; omega)] at he
        have := List.mem_of_getElem? he
        rw [List.eq_of_mem_replicate this]
        trivial
  dis := fun i j m e e' k1 k2 k3 k4 k5 k6 => by
    have only : ∀ (i : Nat) (e : Ent), (envB N.length b ds)[i]? = some e → e.mut = true → i = 0 := fun i e he hm => by
      cases i with
      | zero => rfl
      | succ i =>
        exfalso
        unfold envB at he
        rw [List.getElem?_cons_succ] at he
        have hm2 := List.mem_of_getElem? he
        rcases List.mem_append.mp hm2 with h | h
        · obtain ⟨d, _, rfl⟩ := List.mem_map.mp h
          cases hm
        · rw [List.eq_of_mem_replicate h] at hm
          cases hm
    rw [only i e k3 k5, only j e' k4 k6]
section
variable {P : Program} {w : World} {K : PySem.W.Frag} {mg : Str → Option Value} {base : Heap}
theorem fn_B {x qual : Str} {st : Stmt} {f : Addr} {fd : FuncData} {N ps : List Str} {k : Nat} {g : MoS} {m : OB → List D → Option (Ans × OB)} (F : Fun K x qual st f fd) (S : FnScope N ps (defScope st))
    (hb : ∀ (cdv : Value) (A : Around) (outer : List Env) (s : Shared) (H : Hp) (E : XK) (C : Ct), Room k (A.deeper (PyProof.Rows.envOfC qual (defScope st) s.heap.objs.size f cdv)) → Takes (cxOf (L2.CX P w) P w K mg base N qual (defScope st) f cdv A outer s H E) (fun c d _ H' => E c d H') →
      SsD (cxOf (L2.CX P w) P w K mg base N qual (defScope st) f cdv A outer s H E) C (fun c d _ H' => E c d H') (defBody st) g)
    (hm : ∀ b ds a, ds.length + 1 = ps.length → m b ds = some a → outB (g (envB N.length b ds)) = some a) : FnOk P w K mg base (CXX P w) (k + 1) f fd ps (SpB K ps.length m) := by
  refine F.okX S (fun vs H Q E h => h.1) (fun cdv A outer s H vs Q E hr h => ?_)
  obtain ⟨hl, F0, l, o, ws, b, ds, rfl, sF, h1, h2, h3, r, h⟩ := h
  obtain ⟨ts, p, sd⟩ := hb cdv A outer s H E ⟨F0, H, some l, none⟩ hr (takes_of rfl rfl rfl rfl)
  refine ⟨ts, p, sd F0 H _ (envB N.length b ds) _ (rep_startB sF h1 h2 h3 r) ?_⟩
  cases hmd : m b ds with
  | none => rw [hmd] at h; exact h.elim
  | some a =>
    have ha := hm b ds a (by rw [← r.length]; exact hl) hmd
    rw [hmd] at h
    have io : ∀ {F' H' σ' b' r'}, Rep K ⟨F0, H, some l, none⟩ F' H' σ' (.ib b' :: r') → (∀ c u, H c = some u → c ≠ l → H' c = some u) ∧ ∃ o', H' l = some o' ∧ F' l = none ∧ RepO K F' o' b' := fun {F' H' σ' b' r'} R => by
      refine ⟨fun b o e n => R.keep b o e (fun z => n (Option.some.inj z).symm), ?_⟩
      obtain ⟨l2, o', _, b, c, d, e⟩ := R.ent 0 _ rfl
      cases e
      exact ⟨o', b, c, d⟩
    unfold outB at ha
    cases hg : g (envB N.length b ds) with
    | none => rw [hg] at ha; cases ha
    | some r2 =>
      rw [hg] at ha
      cases r2 with
      | nx e =>
        cases e with
        | nil => cases ha
        | cons e0 er =>
          cases e0 with
          | ib b' =>
            cases ha
            intro F' H' σ' R s2
            obtain ⟨k1, o', k2, k3, k4⟩ := io R
            exact h .non F' H' o' s2 R.fh k1 R.old k2 k3 k4 .non
          | _ => cases ha
      | rt d e =>
        cases e with
        | nil => cases ha
        | cons e0 er =>
          cases e0 with
          | ib b' =>
            cases ha
            intro v F' H' σ' R s2 rv
            obtain ⟨k1, o', k2, k3, k4⟩ := io R
            exact h v F' H' o' s2 R.fh k1 R.old k2 k3 k4 rv
          | _ => cases ha
      | ex x e =>
        cases e with
        | nil => cases ha
        | cons e0 er =>
          cases e0 with
          | ib b' =>
            cases ha
            intro c od F' H' σ' R s2 rx
            obtain ⟨k1, o', k2, k3, k4⟩ := io R
            exact h c od F' H' o' s2 R.fh k1 R.old k2 k3 k4 rx
          | _ => cases ha
      | ro d e => cases ha
      | bk e => cases ha
      | ct e => cases ha
end
/-! ### C(..) -/
def tMakeS (C : Addr) (sp : Sp) (E : St → XK) (t : TA) : TE := fun σ H Q => t σ H fun vs H1 => ∀ x dx, H1 x = none → H1 dx = none → dx ≠ x →
  sp (.ref x :: vs) (upd (upd H1 dx (.own x)) x (.ins C dx [])) (fun v H2 => v = .non ∧ Q (.ref x) H2) (E σ)
section
variable {X : Cx} {C : Ct} {W : WX} {a b e : Expr} {pos : Pos} {f g : Mo D} {s : Stmt}
theorem run_makeS {pins : List (Addr × Obj)} {σ : St} {H : Hp} {s : Shared} {Q : VK} {us : List Value} {vs : List V} {k : Nat} {Ca f : Addr} {fd : FuncData} {ps : List Str} {sp : Sp} {E : St → XK} (M : Mk X.K Ca f) (F : FnOk X.prog X.w X.K X.mg X.base (L2.CX X.prog X.w) k f fd ps sp) (hr : Room (k + 1) X.A) (hb : Binds X.K fd ps [])
    (hx : PassesAt (L2.CX X.prog X.w) X σ (E σ)) (I : Inv X pins σ H s) (r : Vals vs us)
    (h : ∀ x dx, H x = none → H dx = none → dx ≠ x → sp (.ref x :: vs) (upd (upd H dx (.own x)) x (.ins Ca dx [])) (fun v H2 => v = .non ∧ Q (.ref x) H2) (E σ)) :
    wpAny (model X.prog X.w) X.A (call (.ref Ca) us) (EP X pins σ Q) X.xe s := by
  have hq := h (s.heap.objs.size + 1) s.heap.objs.size (I.hok.fresh (Nat.le_succ _)) (I.hok.fresh (Nat.le_refl _)) (Nat.ne_of_lt (Nat.lt_succ_self _))
  have I2 := Inv.made (C := Ca) I
  have r2 : Vals (V.ref (s.heap.objs.size + 1) :: vs) (Value.ref (s.heap.objs.size + 1) :: us) := .cons rfl r
  have hl : (Value.ref (s.heap.objs.size + 1) :: us).length = ps.length := by
    have e := r2.length
    rw [F.len _ _ _ _ hq] at e
    exact e.symm
  have bb := hb { s with heap := (s.heap.push PySem.W.emptyDict).push (PySem.W.instObj Ca s.heap.objs.size) } (Value.ref (s.heap.objs.size + 1) :: us) I2.kIn (by rw [List.append_nil]; exact hl)
  rw [List.append_nil] at bb
  refine wpAny_call (make_map (f := f) I.kIn M.makes M.init (beq_iff_eq.mp M.fn) (codeAny_mono (F.run _ X.stack _ _ ⟨Value.ref (s.heap.objs.size + 1) :: us, []⟩ (Value.ref (s.heap.objs.size + 1) :: us) _ _ (E σ) (hr.make Ca us [])
    (I2.env0.make Ca us []) bb r2 hq) fun r s' hq' => ?_))
  cases r with
  | error e => exact hx pins _ _ e s' I2 hq'
  | ok fl =>
    cases fl with
    | ret u =>
      obtain ⟨v, H', I3, rv, ev, q3⟩ := I2.after hq'
      subst ev
      exact ⟨rv, ⟨V.ref (s.heap.objs.size + 1), H', I3, rfl, q3⟩⟩
    | next => exact False.elim hq'
    | brk => exact False.elim hq'
    | cont => exact False.elim hq'
theorem pe_makeS {k : Nat} {Ca f : Addr} {fd : FuncData} {ps : List Str} {sp : Sp} {E : St → XK} {x : Str} {p pos : Pos} {e : Expr} {es : List Expr} {t : TA} (M : Mk X.K Ca f) (F : FnOk X.prog X.w X.K X.mg X.base (L2.CX X.prog X.w) k f fd ps sp) (hr : Room (k + 1) X.A) (hg : Gl X x) (hm : X.mg x = some (.ref Ca)) (hb : Binds X.K fd ps []) (hx : ∀ σ, PassesAt (L2.CX X.prog X.w) X σ (E σ))
    (ha : PA X (e :: es) t) (hdb : (x == ("__debug__" : Str)) = false := by decide) (he : starEach (e :: es) X.env = (false, eval e X.env) :: starEach es X.env := by rfl) (hpl : (backTo pos (starEach es X.env)).any (·.1) = false := by rfl) :
    PE X (.Call (.Name x p) (e :: es) [] pos) (tMakeS Ca sp E t) := by
  refine ⟨fun pins s σ H Q I h => ?_⟩
  refine wpAny_Call_Name_kw (ld_glob I hg hm ?_ hdb)
  refine PySem.W.callWith_K (h₀ := X.base) I.ok.mod.kin M.kp (thn (ha.run pos pins s σ H _ I h) fun us s1 ⟨vs, H1, I1, r, q⟩ => ⟨I1.kIn, ?_⟩) he hpl
  exact run_makeS M F hr hb (hx σ) I1 r q
def mMake (c : Str) (n : Nat) (m : OB → List D → Option (Ans × OB)) (f : Mo (List D)) : Mo D := bnd f fun ds ε => if ds.length + 1 = n then (match m (.ins c []) ds with
  | some (.ret .non, b) => some (.ok b.frz ε)
  | some (.exc x, _) => some (.ex x ε)
  | _ => none) else none
theorem ev_make {c : Str} {n : Nat} {Ca : Addr} {m : OB → List D → Option (Ans × OB)} {es : List Expr} {fs : Mo (List D)} (hn : PySem.W.nsIn X.K mainGlobals c = some (some (.ref Ca))) (ha : EaD X C W es fs) (hp : ∀ ta, PA X es ta → PE X e (tMakeS Ca (SpB X.K n m) (WE W) ta)) : EvD X C W e (mMake c n m fs) := by
  obtain ⟨ta, p1, s1⟩ := ha
  refine ⟨_, hp _ p1, fun F H σ ε Q R q => ?_⟩
  refine s1 F H σ ε _ R (q.bind.imp (fun ds e q1 vs F1 H1 R1 st1 r1 => ?_) fun x e z => z)
  intro x dx hx hdx ne
  by_cases hl : ds.length + 1 = n
  · rw [if_pos hl] at q1
    have fx : F1 x = none := R1.fh.free hx
    have fdx : F1 dx = none := R1.fh.free hdx
    have sm : Same F1 (upd (upd H1 dx (.own x)) x (.ins Ca dx [])) := fun b o h => by
      rw [upd_ne (ne_of_none h fx), upd_ne (ne_of_none h fdx)]
      exact R1.fh b o h
    have up : ∀ b o, H1 b = some o → (upd (upd H1 dx (.own x)) x (.ins Ca dx [])) b = some o := fun b o h => by
      rw [upd_ne (ne_of_none h hx), upd_ne (ne_of_none h hdx)]
      exact h
    refine ⟨by rw [List.length_cons, r1.length]; exact hl, F1, x, _, vs, .ins c [], ds, rfl, sm, upd_same, fx, (show RepO X.K F1 (.ins Ca dx []) (.ins c []) from ⟨hn, trivial⟩), r1, ?_⟩
    cases hm : m (.ins c []) ds with
    | none => rw [hm] at q1; exact q1.elim
    | some r =>
      rw [hm] at q1
      obtain ⟨an, b⟩ := r
      have step : ∀ {F' H' : Hp}, Same F1 F' → Same F' H' → (∀ b o, (upd (upd H1 dx (.own x)) x (.ins Ca dx [])) b = some o → b ≠ x → H' b = some o) → (∀ b, (upd (upd H1 dx (.own x)) x (.ins Ca dx [])) b ≠ none → F' b = F1 b) → Ste F1 H1 F' H' := fun {F' H'} k1 k2 k3 k4 =>
        ⟨k1, k2, fun b hb => by
          cases q : H1 b with
          | none => exact absurd q hb
          | some o => exact k4 b (by rw [up b o q]; exact fun z => by cases z), fun b o hb => k3 b o (up b o hb) (ne_of_none hb hx)⟩
      cases an with
      | ret d =>
        cases d with
        | non =>
          intro v F' H' o' k1 k2 k3 k4 k5 k5' k6 k7
          refine ⟨rep_non k7, ?_⟩
          have st := step k1 k2 k3 k4
          have st2 : Ste F1 H1 (upd F' x o') H' := ⟨k1.trans (same_upd k5'), fun b o h => by
              by_cases hb : b = x
              · subst hb; rw [upd_same] at h; cases h; exact k5
              · rw [upd_ne hb] at h; exact k2 b o h, fun b hb => by
              rw [upd_ne (show b ≠ x from fun z => hb (by rw [z]; exact hx))]
              exact st.old b hb, st.hh⟩
          exact q1 (.ref x) (upd F' x o') H' (R1.step st2) (st1.trans st2.stp) (k6.rep (same_upd k5') upd_same)
        | _ => exact q1.elim
      | exc xx =>
        intro cc od F' H' o' k1 k2 k3 k4 k5 k5' k6 k7
        exact q1 cc od F' H' (R1.step (step k1 k2 k3 k4)) (st1.trans (step k1 k2 k3 k4).stp) k7
  · rw [if_neg hl] at q1; exact q1.elim
theorem cl_make {k n : Nat} {Ca fa : Addr} {fd : FuncData} {ps : List Str} {c : Str} {m : OB → List D → Option (Ans × OB)} {p pos : Pos} {e : Expr} {es : List Expr} {fs : Mo (List D)} (M : Mk X.K Ca fa) (F : FnOk X.prog X.w X.K X.mg X.base (L2.CX X.prog X.w) k fa fd ps (SpB X.K n m)) (tk : Takes X W) (hr : Room (k + 1) X.A) (hg : Gl X c) (hm : X.mg c = some (.ref Ca)) (hn : PySem.W.nsIn X.K mainGlobals c = some (some (.ref Ca))) (hb : Binds X.K fd ps [])
    (ha : EaD X C W (e :: es) fs) (hdb : (c == ("__debug__" : Str)) = false := by decide) (he : starEach (e :: es) X.env = (false, eval e X.env) :: starEach es X.env := by rfl) (hpl : (backTo pos (starEach es X.env)).any (·.1) = false := by rfl) :
    EvD X C W (.Call (.Name c p) (e :: es) [] pos) (mMake c n m fs) := ev_make hn ha fun _ pa => pe_makeS M F hr hg hm hb (fun σ => passAt tk σ) pa hdb he hpl
end
end DL

set_option Elab.async false
set_option linter.all false
set_option maxRecDepth 100000
namespace DL
open PySem PySem.Spec L2
/-! ### fields -/
structure ClsF (K : PySem.W.Frag) (c f : Str) : Prop where
  ex : ∃ C, PySem.W.nsIn K mainGlobals c = some (some (.ref C)) ∧ Cls K C ∧ NoAttr K C f
theorem RepQ.lookup {K : PySem.W.Frag} {F : Hp} {f : Str} {d : D} : ∀ {fs : List (Str × V)} {qs : List (Str × D)}, RepQ K F fs qs → qs.lookup f = some d → ∃ v, fs.lookup f = some v ∧ RepD K F v d
  | [], [], _, e => by cases e
  | (x, v) :: r, (y, c) :: t, h, e => by
    obtain ⟨h1, h2, h3⟩ := h
    subst h1
    rw [List.lookup_cons] at e ⊢
    cases hx : (f == x) with
    | true =>
      rw [hx] at e
      cases e
      exact ⟨v, rfl, h2⟩
    | false =>
      rw [hx] at e
      exact RepQ.lookup h3 e
  | [], _ :: _, h, _ => h.elim
  | _ :: _, [], h, _ => h.elim
theorem RepQ.nolook {K : PySem.W.Frag} {F : Hp} {f : Str} : ∀ {fs : List (Str × V)} {qs : List (Str × D)}, RepQ K F fs qs → qs.lookup f = none → fs.lookup f = none
  | [], [], _, _ => rfl
  | (x, v) :: r, (y, c) :: t, h, e => by
    obtain ⟨h1, h2, h3⟩ := h
    subst h1
    rw [List.lookup_cons] at e ⊢
    cases hx : (f == x) with
    | true => rw [hx] at e; cases e
    | false =>
      rw [hx] at e
      exact RepQ.nolook h3 e
  | [], _ :: _, h, _ => h.elim
  | _ :: _, [], h, _ => h.elim
def putS (f : Str) (d : D) : List (Str × D) → List (Str × D)
  | [] => [(f, d)]
  | (g, x) :: r => if g = f then (g, d) :: r else (g, x) :: putS f d r
theorem RepQ.putS {K : PySem.W.Frag} {F : Hp} {f : Str} {v : V} {d : D} (hd : RepD K F v d) : ∀ {fs : List (Str × V)} {qs : List (Str × D)}, RepQ K F fs qs → RepQ K F (putF f v fs) (DL.putS f d qs)
  | [], [], _ => ⟨rfl, hd, trivial⟩
  | (x, w) :: r, (y, c) :: t, h => by
    obtain ⟨h1, h2, h3⟩ := h
    subst h1
    unfold putF DL.putS
    by_cases hx : x = f
    · rw [if_pos hx, if_pos hx]; exact ⟨rfl, hd, h3⟩
    · rw [if_neg hx, if_neg hx]; exact ⟨rfl, h2, RepQ.putS hd h3⟩
  | [], _ :: _, h => h.elim
  | _ :: _, [], h => h.elim
def partsOf (c : Str) : D → Option (List (Str × D))
  | .ob c' ks ds => if c' = c then some (ks.zip ds) else none
  | _ => none
theorem parts_rep {K : PySem.W.Frag} {F : Hp} {v : V} {d : D} {c : Str} {qs : List (Str × D)} (h : RepD K F v d) (e : partsOf c d = some qs) : ∃ a C dx fs, v = .ref a ∧ PySem.W.nsIn K mainGlobals c = some (some (.ref C)) ∧ F a = some (.ins C dx fs) ∧ RepQ K F fs qs := by
  cases d with
  | ob c' ks ds =>
    by_cases hc : c' = c
    · subst hc
      simp only [partsOf, if_true, Option.some.injEq] at e
      subst e
      cases h with
      | ob n h1 h2 h3 => exact ⟨_, _, _, _, rfl, n, h1, RepQ.zip h2 h3⟩
    · simp only [partsOf, hc, if_false] at e
      cases e
  | _ => cases e
section
variable {X : Cx} {C : Ct} {W : WX} {a b e o : Expr} {pos : Pos} {f g : Mo D} {s : Stmt}
/-- e.x of data -/
def mFld (c x : Str) (f : Mo D) : Mo D := bnd f fun d => lft ((partsOf c d).bind fun qs => qs.lookup x)
theorem ev_fld {c x : Str} (T : ClsF X.K c x) (hf : EvD X C W a f) (hp : ∀ ta, PE X a ta → PE X e (tFld X.K ta x)) : EvD X C W e (mFld c x f) := by
  obtain ⟨ta, p1, s1⟩ := hf
  refine ⟨_, hp _ p1, fun F H σ ε Q R q => ?_⟩
  refine s1 F H σ ε _ R (q.bind.imp (fun d e q1 v F1 H1 R1 st1 r1 => ?_) fun x e z => z)
  unfold lft at q1
  cases hq : partsOf c d with
  | none => rw [hq] at q1; exact q1.elim
  | some qs =>
    rw [hq] at q1
    simp only [Option.bind_some] at q1
    cases hl : qs.lookup x with
    | none => rw [hl] at q1; exact q1.elim
    | some y =>
      rw [hl] at q1
      obtain ⟨Ca, n1, c1, c2⟩ := T.ex
      obtain ⟨p, C2, dx, fs, rfl, n2, h1, r⟩ := parts_rep r1 hq
      rw [n1] at n2
      cases n2
      obtain ⟨w, e1, e2⟩ := r.lookup hl
      exact ⟨p, Ca, dx, fs, w, rfl, R1.fh _ _ h1, c1, c2, e1, q1 w F1 H1 R1 st1 e2⟩
/-- what stands in a slot, as an instance -/
def insAt (c : Str) : Option Ent → Option (List (Str × D))
  | some (.od (.ins c' qs)) => if c' = c then some qs else none
  | some (.ib (.ins c' qs)) => if c' = c then some qs else none
  | some (.dat d) => partsOf c d
  | _ => none
theorem insAt_rep {K : PySem.W.Frag} {C : Ct} {F H : Hp} {σ : St} {ε : List Ent} (R : Rep K C F H σ ε) {i : Nat} {c : Str} {qs : List (Str × D)} (h : insAt c ε[i]? = some qs) : ∃ l Ca dx fs, σ[i]? = some (some (.ref l)) ∧ PySem.W.nsIn K mainGlobals c = some (some (.ref Ca)) ∧ H l = some (.ins Ca dx fs) ∧ RepQ K F fs qs := by
  cases h0 : ε[i]? with
  | none => rw [h0] at h; cases h
  | some e =>
    rw [h0] at h
    cases e with
    | od b =>
      cases b with
      | ins c' qs' =>
        by_cases hc : c' = c
        · subst hc
          simp only [insAt, if_true, Option.some.injEq] at h
          subst h
          obtain ⟨l, o, q1, q2, q3, q4, q5⟩ := R.ent i _ h0
          cases o with
          | ins C2 dx fs => exact ⟨l, C2, dx, fs, q1, q4.1, q2, q4.2⟩
          | _ => exact q4.elim
        · simp only [insAt, hc, if_false] at h
          cases h
      | _ => cases h
    | ib b =>
      cases b with
      | ins c' qs' =>
        by_cases hc : c' = c
        · subst hc
          simp only [insAt, if_true, Option.some.injEq] at h
          subst h
          obtain ⟨l, o, q1, q2, q3, q4, q5⟩ := R.ent i _ h0
          cases o with
          | ins C2 dx fs => exact ⟨l, C2, dx, fs, q1, q4.1, q2, q4.2⟩
          | _ => exact q4.elim
        · simp only [insAt, hc, if_false] at h
          cases h
      | _ => cases h
    | dat d =>
      obtain ⟨v, q1, q2⟩ := R.ent i _ h0
      obtain ⟨p, C2, dx, fs, rfl, n2, h1, r⟩ := parts_rep q2 h
      exact ⟨p, C2, dx, fs, q1, n2, R.fh _ _ h1, r⟩
    | _ => cases h
/-- x.f, x a name -/
def mFldN (i : Nat) (c x : Str) : Mo D := fun ε => match (insAt c ε[i]?).bind fun qs => qs.lookup x with
  | some d => some (.ok d ε)
  | none => none
theorem ev_fldN {i : Nat} {c x : Str} (T : ClsF X.K c x) (hp : PE X e (tFld X.K (tVar i) x)) : EvD X C W e (mFldN i c x) := by
  refine ⟨_, hp, fun F H σ ε Q R q => ?_⟩
  unfold mFldN at q
  cases h0 : insAt c ε[i]? with
  | none => rw [h0] at q; exact q.elim
  | some qs =>
    rw [h0] at q
    simp only [Option.bind_some] at q
    cases hl : qs.lookup x with
    | none => rw [hl] at q; exact q.elim
    | some y =>
      rw [hl] at q
      obtain ⟨Ca, n1, c1, c2⟩ := T.ex
      obtain ⟨l, C2, dx, fs, a1, n2, h1, r⟩ := insAt_rep R h0
      rw [n1] at n2
      cases n2
      obtain ⟨w, e1, e2⟩ := r.lookup hl
      exact ⟨.ref l, a1, l, Ca, dx, fs, w, rfl, h1, c1, c2, e1, q w F H R Stp.refl e2⟩
/-- x.f = e, x a name that holds an instance of one's own -/
def mFldPut (i : Nat) (c x : Str) (f : Mo D) : MoS := mThen f fun d ε => match ε[i]? with
  | some (.ib (.ins c' qs)) => if c' = c ∧ qs.length < 900 then some (.nx (ε.set i (.ib (.ins c' (putS x d qs))))) else none
  | some (.od (.ins c' qs)) => if c' = c ∧ qs.length < 900 then some (.nx (ε.set i (.od (.ins c' (putS x d qs))))) else none
  | _ => none
theorem st_fld {i : Nat} {c x : Str} {v : Expr} (T : ClsF X.K c x) (hv : EvD X C W v f) (hp : ∀ tv, PE X v tv → PS X s (sFld X.K (tVar i) tv x)) : StD X C W s (mFldPut i c x f) := by
  obtain ⟨te, p1, s1⟩ := hv
  refine ⟨_, hp _ p1, fun F H σ ε D R q => ?_⟩
  refine s1 F H σ ε _ R ((then_good q).imp (fun d e q1 v F1 H1 R1 st1 r1 => ?_) fun x e z => z)
  obtain ⟨Ca, n1, c1, c2⟩ := T.ex
  cases h0 : e[i]? with
  | none => rw [h0] at q1; exact q1.elim
  | some en =>
    rw [h0] at q1
    cases en with
    | ib b =>
      cases b with
      | ins c' qs =>
        dsimp only at q1
        by_cases hc : c' = c ∧ qs.length < 900
        · rw [if_pos hc] at q1
          obtain ⟨rfl, hl⟩ := hc
          obtain ⟨l, o, a1, b1, k1, r, g1⟩ := R1.ent i _ h0
          cases o with
          | ins C2 dx fs =>
            obtain ⟨n2, r2⟩ := r
            rw [n1] at n2
            cases n2
            have r3 : RepO X.K F1 (.ins Ca dx (putF x v fs)) (.ins c' (putS x d qs)) := ⟨n1, RepQ.putS r1 r2⟩
            have R3 := R1.changeB (o := .ins Ca dx (putF x v fs)) (b1 := .ins c' (putS x d qs)) h0 rfl a1 r3 (.inr ⟨rfl, rfl⟩)
            exact ⟨.ref l, a1, l, Ca, dx, fs, rfl, b1, c1, c2, by rw [RepQ.length r2]; omega, q1 F1 _ σ R3 st1.ff⟩
          | _ => exact r.elim
        · rw [if_neg hc] at q1; exact q1.elim
      | _ => exact q1.elim
    | od b =>
      cases b with
      | ins c' qs =>
        dsimp only at q1
        by_cases hc : c' = c ∧ qs.length < 900
        · rw [if_pos hc] at q1
          obtain ⟨rfl, hl⟩ := hc
          obtain ⟨l, o, a1, b1, k1, r, g1⟩ := R1.ent i _ h0
          cases o with
          | ins C2 dx fs =>
            obtain ⟨n2, r2⟩ := r
            rw [n1] at n2
            cases n2
            have r3 : RepO X.K F1 (.ins Ca dx (putF x v fs)) (.ins c' (putS x d qs)) := ⟨n1, RepQ.putS r1 r2⟩
            have R3 := R1.changeB (o := .ins Ca dx (putF x v fs)) (b1 := .ins c' (putS x d qs)) h0 rfl a1 r3 (.inl ⟨rfl, rfl⟩)
            exact ⟨.ref l, a1, l, Ca, dx, fs, rfl, b1, c1, c2, by rw [RepQ.length r2]; omega, q1 F1 _ σ R3 st1.ff⟩
          | _ => exact r.elim
        · rw [if_neg hc] at q1; exact q1.elim
      | _ => exact q1.elim
    | _ => exact q1.elim
/-! ### o.m(..) and o(..), o data -/
def tMethS (Ca : Addr) (m : Str) (sp : Sp) (E : St → XK) (ta : TE) (t : TA) : TE := fun σ H Q => ta σ H fun x H1 => ∃ a dx fs, x = .ref a ∧ H1 a = some (.ins Ca dx fs) ∧ fs.lookup m = none ∧
  t σ H1 fun vs H2 => sp (x :: vs) H2 Q (E σ)
theorem pe_methS {k : Nat} {Ca fa : Addr} {fd : FuncData} {ps : List Str} {sp : Sp} {E : St → XK} {m : Str} {apos pos : Pos} {e : Expr} {es : List Expr} {ta : TE} {t : TA} {pl : Sem Bool} (he : PE X o ta) (c : Cls X.K Ca) (hm : Meth X.K Ca m fa) (F : FnOk X.prog X.w X.K X.mg X.base (L2.CX X.prog X.w) k fa fd ps sp) (hr : Room k X.A) (hb : Binds X.K fd ps []) (hx : ∀ σ, PassesAt (L2.CX X.prog X.w) X σ (E σ)) (ha : PA X (e :: es) t)
    (hst : starEach (e :: es) X.env = (false, eval e X.env) :: starEach es X.env := by rfl) (hpl : (backTo pos (starEach es X.env)).any (·.1) = false := by rfl)
    (ht : eval (.Call (.Attribute o m apos) (e :: es) [] pos) X.env = (do
      let ov ← eval o X.env
      standAt apos.atName
      let (f, first) ← holding [ov] (getMethod ov m pl)
      callWith pos f first (backTo pos (starEach (e :: es) X.env)) (backToKw pos (keywordEach [] X.env))) := by rfl) :
    PE X (.Call (.Attribute o m apos) (e :: es) [] pos) (tMethS Ca m sp E ta t) := by
  refine ⟨fun pins s σ H Q I h => ?_⟩
  refine PySem.W.methodCall_KW (pl := pl) (thn (he.run pins s σ H _ I h) fun u s1 ⟨x, H1, I1, rx, a, dx, fs, ex, ea, l, q⟩ => ?_) ht
  subst ex
  obtain rfl : u = Value.ref a := rx
  refine getmeth_ok I1 ea c hm l ?_
  refine PySem.W.callWith_K (first := [.ref a]) (h₀ := X.base) I.ok.mod.kin hm.kp (thn (ha.run pos pins s1 σ H1 _ I1 q) fun us s2 ⟨vs, H2, I2, r, q2⟩ => ⟨I2.kIn, ?_⟩) hst hpl
  exact run_fnS (us := .ref a :: us) (vs := .ref a :: vs) F hr hb (hx σ) I2 (.cons rfl r) q2
theorem pe_methS0 {k : Nat} {Ca fa : Addr} {fd : FuncData} {ps : List Str} {sp : Sp} {E : St → XK} {m : Str} {apos pos : Pos} {ta : TE} {pl : Sem Bool} (he : PE X o ta) (c : Cls X.K Ca) (hm : Meth X.K Ca m fa) (F : FnOk X.prog X.w X.K X.mg X.base (L2.CX X.prog X.w) k fa fd ps sp) (hr : Room k X.A) (hb : Binds X.K fd ps []) (hx : ∀ σ, PassesAt (L2.CX X.prog X.w) X σ (E σ))
    (ht : eval (.Call (.Attribute o m apos) [] [] pos) X.env = (do
      let ov ← eval o X.env
      standAt apos.atName
      let (f, first) ← holding [ov] (getMethod ov m pl)
      callWith pos f first (backTo pos (starEach [] X.env)) (backToKw pos (keywordEach [] X.env))) := by rfl) :
    PE X (.Call (.Attribute o m apos) [] [] pos) (tMethS Ca m sp E ta tNil) := by
  refine ⟨fun pins s σ H Q I h => ?_⟩
  refine PySem.W.methodCall_KW (pl := pl) (thn (he.run pins s σ H _ I h) fun u s1 ⟨x, H1, I1, rx, a, dx, fs, ex, ea, l, q⟩ => ?_) ht
  subst ex
  obtain rfl : u = Value.ref a := rx
  refine getmeth_ok I1 ea c hm l ?_
  exact PySem.W.callWith_K0 (first := [.ref a]) I1.kIn hm.kp (run_fnS (us := [.ref a]) (vs := [.ref a]) F hr hb (hx σ) I1 (.cons rfl .nil) q)
def tCallOS (Ca : Addr) (sp : Sp) (E : St → XK) (tf : TE) (t : TA) : TE := fun σ H Q => tf σ H fun y H1 => ∃ a, y = V.ref a ∧ t σ H1 fun vs H2 => (∃ dx fs, H2 a = some (.ins Ca dx fs)) ∧ sp (V.ref a :: vs) H2 Q (E σ)
theorem pe_callOS {k : Nat} {Ca g : Addr} {fd : FuncData} {ps : List Str} {sp : Sp} {E : St → XK} {fe e : Expr} {es : List Expr} {tf : TE} {t : TA} {pos : Pos} (hf : PE X fe tf) (c : StX.CallO X.K Ca g) (F : FnOk X.prog X.w X.K X.mg X.base (L2.CX X.prog X.w) k g fd ps sp) (hr : Room k X.A) (hb : Binds X.K fd ps []) (hx : ∀ σ, PassesAt (L2.CX X.prog X.w) X σ (E σ)) (ha : PA X (e :: es) t)
    (ht : eval (.Call fe (e :: es) [] pos) X.env = (do callWith pos (← eval fe X.env) [] (backTo pos (starEach (e :: es) X.env)) (backToKw pos (keywordEach [] X.env))) := by rfl)
    (he : starEach (e :: es) X.env = (false, eval e X.env) :: starEach es X.env := by rfl) (hpl : (backTo pos (starEach es X.env)).any (·.1) = false := by rfl) : PE X (.Call fe (e :: es) [] pos) (tCallOS Ca sp E tf t) := by
  refine ⟨fun pins s σ H Q I h => ?_⟩
  refine PyProof.Rows.Call_ (thn (hf.run pins s σ H _ I h) fun u s1 ⟨y, H1, I1, ry, a, ey, q⟩ => ?_) ht
  subst ey
  obtain rfl : u = Value.ref a := ry
  refine StX.callO_with (thn (ha.run pos pins s1 σ H1 _ I1 q) fun us s2 ⟨vs, H2, I2, r, ⟨dx, fs, hi⟩, q2⟩ => ?_) he hpl
  obtain ⟨ox, od, J, hd⟩ := StX.insC_at (C := Ca) I2 (.inr ⟨dx, fs, hi⟩)
  refine ⟨⟨Ca, ox, od, J, hd⟩, ?_⟩
  have hl : (Value.ref a :: us).length = ps.length := by
    have r2 : Vals (V.ref a :: vs) (Value.ref a :: us) := .cons rfl r
    rw [← r2.length]; exact F.len _ _ _ _ q2
  have bb := hb s2 (Value.ref a :: us) I2.kIn (by rw [List.append_nil]; exact hl)
  rw [List.append_nil] at bb
  refine wpAny_call (PySem.W.kco_code I2.kIn J hd c.at_ c.fn c.fi (codeAny_mono (F.run X.A X.stack s2 H2 ⟨Value.ref a :: us, []⟩ (Value.ref a :: us) (V.ref a :: vs) Q (E σ) hr I2.env0 bb (.cons rfl r) q2) fun r s' hq => ?_))
  cases r with
  | error e => exact hx σ pins H2 s2 e s' I2 hq
  | ok fl =>
    cases fl with
    | ret u => exact I2.after hq
    | next => exact False.elim hq
    | brk => exact False.elim hq
    | cont => exact False.elim hq
/-- what is needed of a method m of the class c, n arguments with self -/
structure MethOk (P : Program) (w : World) (K : PySem.W.Frag) (mg : Str → Option Value) (base : Heap) (k n : Nat) (c m : Str) (mm : List D → Option Ans) (Ca fa : Addr) (fd : FuncData) (ps : List Str) : Prop where
  ns : PySem.W.nsIn K mainGlobals c = some (some (.ref Ca))
  cl : Cls K Ca
  me : Meth K Ca m fa
  fn : FnOk P w K mg base (L2.CX P w) k fa fd ps (SpP K n mm)
  bd : Binds K fd ps []
def mMeth (c m : Str) (n : Nat) (mm : List D → Option Ans) (fo : Mo D) (fa : Mo (List D)) : Mo D := bnd fo fun d => match (partsOf c d).bind fun qs => if qs.lookup m = none then some qs else none with
  | some _ => bnd fa fun ds => if ds.length + 1 = n then ansM (mm (d :: ds)) else lft none
  | none => lft none
def mCallO (c : Str) (n : Nat) (mm : List D → Option Ans) (fo : Mo D) (fa : Mo (List D)) : Mo D := bnd fo fun d => match partsOf c d with
  | some _ => bnd fa fun ds => if ds.length + 1 = n then ansM (mm (d :: ds)) else lft none
  | none => lft none
theorem sp_go {K : PySem.W.Frag} {n : Nat} {mm : List D → Option Ans} {σ : St} {ε : List Ent} {F H F1 H1 : Hp} {Q : VK} {v : V} {d : D} {vs : List V} {ds : List D} {e2 : List Ent}
    (q1 : Good ((if ds.length + 1 = n then ansM (mm (d :: ds)) else lft none) e2) (OkE K C F H σ ε Q) (ExP K C W F H σ ε)) (R1 : Rep K C F1 H1 σ e2) (st1 : Stp σ ε e2 F H F1 H1) (r0 : RepD K F1 v d) (r1 : RepL K F1 vs ds) : SpP K n mm (v :: vs) H1 Q (WE W σ) := by
  by_cases hl : ds.length + 1 = n
  · rw [if_pos hl] at q1
    refine ⟨by rw [List.length_cons, r1.length]; exact hl, F1, d :: ds, R1.fh, .cons r0 r1, ?_⟩
    unfold ansM at q1
    cases hm : mm (d :: ds) with
    | none => rw [hm] at q1; exact q1.elim
    | some an =>
      rw [hm] at q1
      cases an with
      | ret d => exact fun v F' H' st r => q1 v F' H' (R1.step st) (st1.trans st.stp) r
      | exc x => exact fun c od F' H' st r => q1 c od F' H' (R1.step st) (st1.trans st.stp) r
  · rw [if_neg hl] at q1; exact q1.elim
theorem ev_meth {k n : Nat} {c m : Str} {mm : List D → Option Ans} {Ca fa : Addr} {fd : FuncData} {ps : List Str} {apos pos : Pos} {e : Expr} {es : List Expr} {fs : Mo (List D)} (T : MethOk X.prog X.w X.K X.mg X.base k n c m mm Ca fa fd ps) (tk : Takes X W) (hr : Room k X.A) (ho : EvD X C W o f) (ha : EaD X C W (e :: es) fs)
    (hst : starEach (e :: es) X.env = (false, eval e X.env) :: starEach es X.env := by rfl) (hpl : (backTo pos (starEach es X.env)).any (·.1) = false := by rfl) {pl : Sem Bool}
    (ht : eval (.Call (.Attribute o m apos) (e :: es) [] pos) X.env = (do
      let ov ← eval o X.env
      standAt apos.atName
      let (f, first) ← holding [ov] (getMethod ov m pl)
      callWith pos f first (backTo pos (starEach (e :: es) X.env)) (backToKw pos (keywordEach [] X.env))) := by rfl) :
    EvD X C W (.Call (.Attribute o m apos) (e :: es) [] pos) (mMeth c m n mm f fs) := by
  obtain ⟨to, p0, s0⟩ := ho
  obtain ⟨ta, p1, s1⟩ := ha
  refine ⟨_, pe_methS (E := WE W) p0 T.cl T.me T.fn hr T.bd (fun σ => passAt tk σ) p1 hst hpl ht, fun F H σ ε Q R q => ?_⟩
  refine s0 F H σ ε _ R (q.bind.imp (fun d e q1 v F1 H1 R1 st1 r1 => ?_) fun x e z => z)
  cases hq : partsOf c d with
  | none => rw [hq] at q1; exact q1.elim
  | some qs =>
    rw [hq] at q1
    simp only [Option.bind_some] at q1
    by_cases hl : qs.lookup m = none
    · rw [if_pos hl] at q1
      dsimp only at q1
      obtain ⟨p, C2, dx, fs2, rfl, n2, h1, r⟩ := parts_rep r1 hq
      rw [T.ns] at n2
      cases n2
      refine ⟨p, dx, fs2, rfl, R1.fh _ _ h1, r.nolook hl, ?_⟩
      refine s1 F1 H1 σ e _ R1 (q1.bind.imp (fun ds e2 q2 vs F2 H2 R2 st2 r2 => ?_) fun x e z => z.imp st1)
      exact sp_go q2 R2 (st1.trans st2) (r1.mono st2.ff) r2
    · rw [if_neg hl] at q1; exact q1.elim
theorem ev_meth0 {k : Nat} {c m : Str} {mm : List D → Option Ans} {Ca fa : Addr} {fd : FuncData} {ps : List Str} {apos pos : Pos} (T : MethOk X.prog X.w X.K X.mg X.base k 1 c m mm Ca fa fd ps) (tk : Takes X W) (hr : Room k X.A) (ho : EvD X C W o f) {pl : Sem Bool}
    (ht : eval (.Call (.Attribute o m apos) [] [] pos) X.env = (do
      let ov ← eval o X.env
      standAt apos.atName
      let (f, first) ← holding [ov] (getMethod ov m pl)
      callWith pos f first (backTo pos (starEach [] X.env)) (backToKw pos (keywordEach [] X.env))) := by rfl) :
    EvD X C W (.Call (.Attribute o m apos) [] [] pos) (mMeth c m 1 mm f (pur [])) := by
  obtain ⟨to, p0, s0⟩ := ho
  refine ⟨_, pe_methS0 (E := WE W) p0 T.cl T.me T.fn hr T.bd (fun σ => passAt tk σ) ht, fun F H σ ε Q R q => ?_⟩
  refine s0 F H σ ε _ R (q.bind.imp (fun d e q1 v F1 H1 R1 st1 r1 => ?_) fun x e z => z)
  cases hq : partsOf c d with
  | none => rw [hq] at q1; exact q1.elim
  | some qs =>
    rw [hq] at q1
    simp only [Option.bind_some] at q1
    by_cases hl : qs.lookup m = none
    · rw [if_pos hl] at q1
      dsimp only at q1
      obtain ⟨p, C2, dx, fs2, rfl, n2, h1, r⟩ := parts_rep r1 hq
      rw [T.ns] at n2
      cases n2
      exact ⟨p, dx, fs2, rfl, R1.fh _ _ h1, r.nolook hl, sp_go (vs := []) (ds := []) q1 R1 st1 r1 .nil⟩
    · rw [if_neg hl] at q1; exact q1.elim
theorem ev_callO {k n : Nat} {c : Str} {mm : List D → Option Ans} {Ca fa : Addr} {fd : FuncData} {ps : List Str} {fe e : Expr} {es : List Expr} {fs : Mo (List D)} {pos : Pos} (hn : PySem.W.nsIn X.K mainGlobals c = some (some (.ref Ca))) (co : StX.CallO X.K Ca fa) (F : FnOk X.prog X.w X.K X.mg X.base (L2.CX X.prog X.w) k fa fd ps (SpP X.K n mm)) (hb : Binds X.K fd ps []) (tk : Takes X W) (hr : Room k X.A) (ho : EvD X C W fe f) (ha : EaD X C W (e :: es) fs)
    (ht : eval (.Call fe (e :: es) [] pos) X.env = (do callWith pos (← eval fe X.env) [] (backTo pos (starEach (e :: es) X.env)) (backToKw pos (keywordEach [] X.env))) := by rfl)
    (he : starEach (e :: es) X.env = (false, eval e X.env) :: starEach es X.env := by rfl) (hpl : (backTo pos (starEach es X.env)).any (·.1) = false := by rfl) : EvD X C W (.Call fe (e :: es) [] pos) (mCallO c n mm f fs) := by
  obtain ⟨to, p0, s0⟩ := ho
  obtain ⟨ta, p1, s1⟩ := ha
  refine ⟨_, pe_callOS (E := WE W) p0 co F hr hb (fun σ => passAt tk σ) p1 ht he hpl, fun F H σ ε Q R q => ?_⟩
  refine s0 F H σ ε _ R (q.bind.imp (fun d e q1 v F1 H1 R1 st1 r1 => ?_) fun x e z => z)
  cases hq : partsOf c d with
  | none => rw [hq] at q1; exact q1.elim
  | some qs =>
    rw [hq] at q1
    dsimp only at q1
    obtain ⟨p, C2, dx, fs2, rfl, n2, h1, r⟩ := parts_rep r1 hq
    rw [hn] at n2
    cases n2
    refine ⟨p, rfl, ?_⟩
    refine s1 F1 H1 σ e _ R1 (q1.bind.imp (fun ds e2 q2 vs F2 H2 R2 st2 r2 => ?_) fun x e z => z.imp st1)
    exact ⟨⟨dx, fs2, R2.fh _ _ (st2.ff _ _ h1)⟩, sp_go q2 R2 (st1.trans st2) (r1.mono st2.ff) r2⟩
end
end DL

set_option Elab.async false
set_option linter.all false
set_option maxRecDepth 100000
namespace DL
open PySem PySem.Spec L2
/-! ### C.m(..), m a staticmethod -/
structure StatC (K : PySem.W.Frag) (Ca : Addr) (mc : Value) (m : Str) (p g : Addr) : Prop where
  rd : ClX.CRead K Ca mc
  at_ : PySem.W.findCls K (.ref Ca) mc m = some (.get (.builtin "staticmethod.__get__") (.ref p) .none (.ref Ca))
  rc : ∃ rest, PySem.W.recIn K p "staticmethod" = some (.ref g :: rest)
  kp : PySem.W.keepIn K (.ref g) = true
def tStat (sp : Sp) (E : St → XK) (t : TA) : TE := fun σ H Q => t σ H fun vs H1 => sp vs H1 Q (E σ)
section
variable {X : Cx} {C : Ct} {W : WX} {a b e o : Expr} {pos apos : Pos} {f g : Mo D} {s : Stmt}
theorem getmethsm_ok {pins : List (Addr × Obj)} {σ : St} {H : Hp} {s : Shared} {Ca p g : Addr} {mc : Value} {m : Str} {A : Around} {E : Value → Shared → Prop} {pl : Sem Bool} {Q : Value × List Value → Shared → Prop} (I : Inv X pins σ H s) (k : StatC X.K Ca mc m p g)
    (h : ∀ s', Inv X pins σ H s' → Q (.ref g, []) s') : wpAny (model X.prog X.w) A (getMethod (.ref Ca) m pl) Q E s := by
  obtain ⟨rest, hp⟩ := k.rc
  refine PySem.W.method_cls I.kIn k.rd.ga (PySem.W.cls_bind I.kIn k.rd.rd k.at_ ?_)
  refine wpAny_call (PySem.W.sm_get (s := { s with toks := s.toks + 1 }) I.kIn hp (PySem.W.handed_on rfl ?_))
  exact h _ (I.tok _)
theorem pe_stat0 {k : Nat} {Ca p g : Addr} {mc : Value} {fd : FuncData} {ps : List Str} {sp : Sp} {E : St → XK} {m : Str} {pl : Sem Bool} (he : PE X o (tC (.ref Ca))) (c : StatC X.K Ca mc m p g) (F : FnOk X.prog X.w X.K X.mg X.base (L2.CX X.prog X.w) k g fd ps sp) (hr : Room k X.A) (hb : Binds X.K fd ps []) (hx : ∀ σ, PassesAt (L2.CX X.prog X.w) X σ (E σ))
    (ht : eval (.Call (.Attribute o m apos) [] [] pos) X.env = (do
      let ov ← eval o X.env
      standAt apos.atName
      let (f, first) ← holding [ov] (getMethod ov m pl)
      callWith pos f first (backTo pos (starEach [] X.env)) (backToKw pos (keywordEach [] X.env))) := by rfl) :
    PE X (.Call (.Attribute o m apos) [] [] pos) (tStat sp E tNil) := by
  refine ⟨fun pins s σ H Q I h => ?_⟩
  refine PySem.W.methodCall_KW (pl := pl) (thn (he.run pins s σ H (fun x H1 => x = .ref Ca ∧ H1 = H) I ⟨rfl, rfl⟩) fun u s1 ⟨x, H1, I1, rx, ex, eh⟩ => ?_) ht
  subst ex eh
  obtain rfl : u = Value.ref Ca := rx
  refine getmethsm_ok I1 c fun s2 I2 => ?_
  exact PySem.W.callWith_K0 (first := []) I2.kIn c.kp (run_fnS (us := []) (vs := []) F hr hb (hx σ) I2 .nil h)
theorem pe_stat {k : Nat} {Ca p g : Addr} {mc : Value} {fd : FuncData} {ps : List Str} {sp : Sp} {E : St → XK} {m : Str} {e : Expr} {es : List Expr} {t : TA} {pl : Sem Bool} (he : PE X o (tC (.ref Ca))) (c : StatC X.K Ca mc m p g) (F : FnOk X.prog X.w X.K X.mg X.base (L2.CX X.prog X.w) k g fd ps sp) (hr : Room k X.A) (hb : Binds X.K fd ps []) (hx : ∀ σ, PassesAt (L2.CX X.prog X.w) X σ (E σ)) (ha : PA X (e :: es) t)
    (hst : starEach (e :: es) X.env = (false, eval e X.env) :: starEach es X.env := by rfl) (hpl : (backTo pos (starEach es X.env)).any (·.1) = false := by rfl)
    (ht : eval (.Call (.Attribute o m apos) (e :: es) [] pos) X.env = (do
      let ov ← eval o X.env
      standAt apos.atName
      let (f, first) ← holding [ov] (getMethod ov m pl)
      callWith pos f first (backTo pos (starEach (e :: es) X.env)) (backToKw pos (keywordEach [] X.env))) := by rfl) :
    PE X (.Call (.Attribute o m apos) (e :: es) [] pos) (tStat sp E t) := by
  refine ⟨fun pins s σ H Q I h => ?_⟩
  refine PySem.W.methodCall_KW (pl := pl) (thn (he.run pins s σ H (fun x H1 => x = .ref Ca ∧ H1 = H) I ⟨rfl, rfl⟩) fun u s1 ⟨x, H1, I1, rx, ex, eh⟩ => ?_) ht
  subst ex eh
  obtain rfl : u = Value.ref Ca := rx
  refine getmethsm_ok I1 c fun s2 I2 => ?_
  refine PySem.W.callWith_K (first := []) (h₀ := X.base) I.ok.mod.kin c.kp (thn (ha.run pos pins s2 σ _ _ I2 h) fun us s3 ⟨vs, H2, I3, r, q2⟩ => ⟨I3.kIn, ?_⟩) hst hpl
  exact run_fnS F hr hb (hx σ) I3 r q2
theorem ev_stat0 {k : Nat} {Ca p g : Addr} {mc : Value} {fd : FuncData} {ps : List Str} {m : Str} {mm : List D → Option Ans} {pl : Sem Bool} (he : PE X o (tC (.ref Ca))) (c : StatC X.K Ca mc m p g) (F : FnOk X.prog X.w X.K X.mg X.base (L2.CX X.prog X.w) k g fd ps (SpP X.K 0 mm)) (tk : Takes X W) (hr : Room k X.A) (hb : Binds X.K fd ps [])
    (ht : eval (.Call (.Attribute o m apos) [] [] pos) X.env = (do
      let ov ← eval o X.env
      standAt apos.atName
      let (f, first) ← holding [ov] (getMethod ov m pl)
      callWith pos f first (backTo pos (starEach [] X.env)) (backToKw pos (keywordEach [] X.env))) := by rfl) :
    EvD X C W (.Call (.Attribute o m apos) [] [] pos) (mFn 0 mm (pur [])) := by
  refine ⟨_, pe_stat0 (E := WE W) he c F hr hb (fun σ => passAt tk σ) ht, fun F0 H σ ε Q R q => ?_⟩
  have q1 : Good (ansM (mm []) ε) _ _ := q
  refine ⟨rfl, F0, [], R.fh, .nil, ?_⟩
  unfold ansM at q1
  cases hm2 : mm [] with
  | none => rw [hm2] at q1; exact q1.elim
  | some an =>
    rw [hm2] at q1
    cases an with
    | ret d => exact fun v F' H' st r => q1 v F' H' (R.step st) st.stp r
    | exc x => exact fun c od F' H' st r => q1 c od F' H' (R.step st) st.stp r
theorem ev_stat {k n : Nat} {Ca p g : Addr} {mc : Value} {fd : FuncData} {ps : List Str} {m : Str} {mm : List D → Option Ans} {e : Expr} {es : List Expr} {fs : Mo (List D)} {pl : Sem Bool} (he : PE X o (tC (.ref Ca))) (c : StatC X.K Ca mc m p g) (F : FnOk X.prog X.w X.K X.mg X.base (L2.CX X.prog X.w) k g fd ps (SpP X.K n mm)) (tk : Takes X W) (hr : Room k X.A) (hb : Binds X.K fd ps []) (ha : EaD X C W (e :: es) fs)
    (hst : starEach (e :: es) X.env = (false, eval e X.env) :: starEach es X.env := by rfl) (hpl : (backTo pos (starEach es X.env)).any (·.1) = false := by rfl)
    (ht : eval (.Call (.Attribute o m apos) (e :: es) [] pos) X.env = (do
      let ov ← eval o X.env
      standAt apos.atName
      let (f, first) ← holding [ov] (getMethod ov m pl)
      callWith pos f first (backTo pos (starEach (e :: es) X.env)) (backToKw pos (keywordEach [] X.env))) := by rfl) :
    EvD X C W (.Call (.Attribute o m apos) (e :: es) [] pos) (mFn n mm fs) :=
  ev_fn ha fun _ pa => ⟨fun pins s σ H Q I h => (pe_stat (E := WE W) he c F hr hb (fun σ => passAt tk σ) pa hst hpl ht).run pins s σ H Q I h⟩
/-! ### zip of two lists or two tuples -/
def zipD : List D → Option (List D)
  | [.tup a, .tup b] => some ((a.zip b).map fun p => .tup [p.1, p.2])
  | [.lst a, .lst b] => some ((a.zip b).map fun p => .tup [p.1, p.2])
  | _ => none
theorem zip_at {α β : Type} {as : List α} {bs : List β} {i : Nat} {x : α} {y : β} (h1 : as[i]? = some x) (h2 : bs[i]? = some y) : (as.zip bs)[i]? = some (x, y) := by
  rw [List.getElem?_zip_eq_some]; exact ⟨h1, h2⟩
theorem it_zipT {K : PySem.W.Frag} {F : Hp} {a b : Addr} {xs ys : List V} {ds es : List D} (h : SqT K F a xs) (r : RepL K F xs ds) (h' : SqT K F b ys) (r' : RepL K F ys es) : ItOk K F (RZ.ItzT K a b) ((ds.zip es).map fun p => .tup [p.1, p.2]) where
  go := fun F' H' i s1 s2 hi => by
    rw [List.length_map, List.length_zip] at hi
    have hx : i < xs.length := by rw [r.length]; omega
    have hy : i < ys.length := by rw [r'.length]; omega
    exact ⟨xs, ys, xs[i], ys[i], seqT (s1.trans s2) h, seqT (s1.trans s2) h', List.getElem?_eq_getElem hx, List.getElem?_eq_getElem hy⟩
  yl := fun F' H' i x H2 s1 s2 hi hyl => by
    obtain ⟨T, x1, y1, rfl, hn, rfl, e1, e2⟩ := hyl
    have hx := e1 xs (seqT (s1.trans s2) h)
    have hy := e2 ys (seqT (s1.trans s2) h')
    obtain ⟨d, h1, h2⟩ := r.getV hx
    obtain ⟨d', h1', h2'⟩ := r'.getV hy
    have st := Ste.laid (o := .tup [x1, y1]) s2 hn
    refine ⟨.tup [d, d'], _, ?_, st, .tup (.inl (.inl upd_same)) (.cons ((h2.mono s1).mono st.ff) (.cons ((h2'.mono s1).mono st.ff) .nil))⟩
    rw [List.getElem?_map, zip_at h1 h1']
    rfl
  st := fun F' H' i s1 s2 hi => by
    rw [List.length_map, List.length_zip] at hi
    refine ⟨xs, ys, seqT (s1.trans s2) h, seqT (s1.trans s2) h', ?_⟩
    rw [r.length, r'.length]
    omega
theorem it_zip {K : PySem.W.Frag} {F : Hp} {a b : Addr} {xs ys : List V} {ds es : List D} (h : SqL K F a xs) (r : RepL K F xs ds) (h' : SqL K F b ys) (r' : RepL K F ys es) : ItOk K F (Itz K a b) ((ds.zip es).map fun p => .tup [p.1, p.2]) where
  go := fun F' H' i s1 s2 hi => by
    rw [List.length_map, List.length_zip] at hi
    have hx : i < xs.length := by rw [r.length]; omega
    have hy : i < ys.length := by rw [r'.length]; omega
    exact ⟨xs, ys, xs[i], ys[i], Same.seq (s1.trans s2) h, Same.seq (s1.trans s2) h', List.getElem?_eq_getElem hx, List.getElem?_eq_getElem hy⟩
  yl := fun F' H' i x H2 s1 s2 hi hyl => by
    obtain ⟨T, x1, y1, rfl, hn, rfl, e1, e2⟩ := hyl
    have hx := e1 xs (Same.seq (s1.trans s2) h)
    have hy := e2 ys (Same.seq (s1.trans s2) h')
    obtain ⟨d, h1, h2⟩ := r.getV hx
    obtain ⟨d', h1', h2'⟩ := r'.getV hy
    have st := Ste.laid (o := .tup [x1, y1]) s2 hn
    refine ⟨.tup [d, d'], _, ?_, st, .tup (.inl (.inl upd_same)) (.cons ((h2.mono s1).mono st.ff) (.cons ((h2'.mono s1).mono st.ff) .nil))⟩
    rw [List.getElem?_map, zip_at h1 h1']
    rfl
  st := fun F' H' i s1 s2 hi => by
    rw [List.length_map, List.length_zip] at hi
    refine ⟨xs, ys, Same.seq (s1.trans s2) h, Same.seq (s1.trans s2) h', ?_⟩
    rw [r.length, r'.length]
    omega
theorem ei_zip {tg e : Expr} {es : List Expr} {fs : Mo (List D)} (ha : EaD X C W es fs) (hp : ∀ ta, PA X es ta → PI X tg e (RZ.iZipA X.K ta)) : EiD X C W tg e (bnd fs fun ds => lft (zipD ds)) := by
  obtain ⟨ta, p1, s1⟩ := ha
  refine ⟨_, hp _ p1, fun F H σ ε R R0 q => ?_⟩
  refine s1 F H σ ε _ R0 (q.bind.imp (fun ds e q1 vs F1 H1 R1 st1 r1 => ?_) fun x e z => z)
  unfold lft at q1
  cases hz : zipD ds with
  | none => rw [hz] at q1; exact q1.elim
  | some zs =>
    rw [hz] at q1
    unfold zipD at hz
    split at hz
    · cases hz
      cases r1 with
      | cons ra rb => cases rb with
        | cons rb rc =>
          cases rc
          obtain ⟨p, xs, rfl, h, r⟩ := rep_tup ra
          obtain ⟨p', ys, rfl, h', r'⟩ := rep_tup rb
          exact ⟨p, p', xs, ys, rfl, .inr ⟨seqT R1.fh h, seqT R1.fh h', q1 _ F1 H1 R1 st1 (it_zipT h r h' r')⟩⟩
    · cases hz
      cases r1 with
      | cons ra rb => cases rb with
        | cons rb rc =>
          cases rc
          obtain ⟨p, xs, rfl, h, r⟩ := rep_seqs ra
          obtain ⟨p', ys, rfl, h', r'⟩ := rep_seqs rb
          exact ⟨p, p', xs, ys, rfl, .inl ⟨Same.seq R1.fh h, Same.seq R1.fh h', q1 _ F1 H1 R1 st1 (it_zip h r h' r')⟩⟩
    · cases hz
/-! ### the target ((a, b), (c, d)) -/
def gdTwo (i j k l : Nat) : Tg := ⟨[i, j, k, l], fun d => match d with
  | .tup [.tup [a, b], .tup [c, d]] => some [a, b, c, d]
  | _ => none⟩
theorem sg_two {K : PySem.W.Frag} {i j k l : Nat} : SdG K (gTup K 2 (gCons (gTup K 2 (gNames [i, j])) (gCons (gTup K 2 (gNames [k, l])) gNil))) (gdTwo i j k l) := fun F H σ v d ds Q s r e q => by
  unfold gdTwo at e
  dsimp only at e
  split at e
  · cases e
    obtain ⟨p, xs, rfl, h, r2⟩ := rep_tup r
    cases r2 with
    | cons ra rb => cases rb with
      | cons rb rc =>
        cases rc
        obtain ⟨p1, x1, rfl, h1, r3⟩ := rep_tup ra
        obtain ⟨p2, x2, rfl, h2, r4⟩ := rep_tup rb
        cases r3 with
        | cons ca cb => cases cb with
          | cons cb cc =>
            cases cc
            cases r4 with
            | cons da db => cases db with
              | cons db dc =>
                cases dc
                refine ⟨p, _, rfl, seqT s h, rfl, ?_⟩
                refine ⟨_, _, rfl, ?_⟩
                refine ⟨p1, _, rfl, seqT s h1, rfl, ?_⟩
                refine gNames_run rfl ?_
                refine ⟨_, _, rfl, ?_⟩
                refine ⟨p2, _, rfl, seqT s h2, rfl, ?_⟩
                refine gNames_run rfl ?_
                exact ⟨rfl, q [_, _, _, _] (.cons ca (.cons cb (.cons da (.cons db .nil))))⟩
  · cases e
/-! ### any, all of a list of truth values -/
def boolsOf : List D → Option (List Bool)
  | [] => some []
  | .bl b :: r => (boolsOf r).map fun q => b :: q
  | _ => none
theorem bools_rep {K : PySem.W.Frag} {F : Hp} : ∀ {vs : List V} {ds : List D} {bs : List Bool}, RepL K F vs ds → boolsOf ds = some bs → vs = bs.map V.bl
  | _, _, bs, .nil, e => by cases e; rfl
  | _, d :: r, bs, .cons h t, e => by
    cases d with
    | bl b =>
      simp only [boolsOf, Option.map_eq_some_iff] at e
      obtain ⟨q, e1, rfl⟩ := e
      rw [rep_bl h, bools_rep t e1]; rfl
    | _ => simp [boolsOf] at e
def gAny : D → Option D
  | .lst ds => (boolsOf ds).map fun bs => .bl (bs.any id)
  | _ => none
def gAll : D → Option D
  | .lst ds => (boolsOf ds).map fun bs => .bl (bs.all id)
  | _ => none
theorem vc_any {K : PySem.W.Frag} : VCall K (rAny K) (gOne gAny) := by
  intro F H xs ds c Q s r hg q
  obtain ⟨x, d, rfl, rfl, rd, hd⟩ := one_of r hg
  cases d with
  | lst es =>
    simp only [gAny, Option.map_eq_some_iff] at hd
    obtain ⟨bs, e1, rfl⟩ := hd
    obtain ⟨p, ys, rfl, h, r2⟩ := rep_seqs rd
    rw [bools_rep r2 e1] at h
    exact ⟨p, bs, rfl, Same.seq s h, q _ F H (Ste.refl s) (.bl _)⟩
  | _ => cases hd
theorem vc_all {K : PySem.W.Frag} : VCall K (rAll K) (gOne gAll) := by
  intro F H xs ds c Q s r hg q
  obtain ⟨x, d, rfl, rfl, rd, hd⟩ := one_of r hg
  cases d with
  | lst es =>
    simp only [gAll, Option.map_eq_some_iff] at hd
    obtain ⟨bs, e1, rfl⟩ := hd
    obtain ⟨p, ys, rfl, h, r2⟩ := rep_seqs rd
    rw [bools_rep r2 e1] at h
    exact ⟨p, bs, rfl, Same.seq s h, q _ F H (Ste.refl s) (.bl _)⟩
  | _ => cases hd
end
end DL

set_option Elab.async false
set_option linter.all false
set_option maxRecDepth 100000
namespace DL
open PySem PySem.Spec L2
section
variable {X : Cx} {C : Ct} {W : WX} {a b e o : Expr} {pos apos : Pos} {f g : Mo D} {s : Stmt}
/-! ### xs.extend(e), e a new list -/
def mExt (i : Nat) (f : Mo D) : MoS := fun ε0 => match (ε0[i]?).bind Ent.get with
  | none => none
  | some _ => mThen f (fun d ε => match ε[i]?, d with
    | some e, .lst ds => (match e.get with
      | none => none
      | some ps => if ps.length + ds.length ≤ 1000000 then some (.nx (ε.set i (e.put (ps ++ ds)))) else none)
    | _, _ => none) ε0
theorem st_ext {i : Nat} (hp : ∀ te, PE X e te → PS X s (tDrop (tBM X.K "list" rExtend (tVar i) (tCons te tNil)))) (he : EvD X C W e f) : StD X C W s (mExt i f) := by
  obtain ⟨te, p, sd⟩ := he
  refine ⟨_, hp _ p, fun F H σ ε D R q => ?_⟩
  unfold mExt at q
  cases h0 : ε[i]? with
  | none => rw [h0] at q; exact q.elim
  | some e0 =>
    cases h1 : e0.get with
    | none => rw [h0] at q; simp only [Option.bind_some, h1] at q; exact q.elim
    | some p0 =>
      rw [h0] at q
      simp only [Option.bind_some, h1] at q
      obtain ⟨l, us0, a0, b0, _⟩ := R.at h0 h1
      refine ⟨.ref l, a0, .inl ⟨rfl, us0, .inl (.inl b0)⟩, ?_⟩
      refine sd F H σ ε _ R ((then_good q).imp (fun d e q1 v F1 H1 R1 st1 r1 => ?_) fun x e z => z)
      cases h2 : e[i]? with
      | none => rw [h2] at q1; exact q1.elim
      | some e1 =>
        rw [h2] at q1
        cases d with
        | lst ds =>
          dsimp only at q1
          cases h3 : e1.get with
          | none => rw [h3] at q1; exact q1.elim
          | some ps =>
            rw [h3] at q1
            dsimp only at q1
            by_cases hz : ps.length + ds.length ≤ 1000000
            · rw [if_pos hz] at q1
              obtain ⟨l2, us, a, b, c, d', hm⟩ := R1.at h2 h3
              rw [a0] at a
              cases a
              obtain ⟨p2, zs, rfl, hz2, r2⟩ := rep_lst r1
              obtain ⟨R2, st2⟩ := R1.callQ (F' := F1) (H' := upd H1 l (.lst (us ++ zs))) (ps' := ps ++ ds) h2 h3 a0 (Same.refl F1) (fun x o q => by
                rw [upd_ne (fun z => by rw [z, c] at q; cases q)]; exact R1.fh x o q) (fun x o q n => by rw [upd_ne n]; exact q) (fun _ _ => rfl) upd_same (d'.append r2)
              exact ⟨l, p2, us, zs, rfl, rfl, b, R1.fh _ _ hz2, by rw [d'.length, r2.length]; exact Nat.le_trans hz (by decide), q1 F1 _ σ R2 st1.ff⟩
            · rw [if_neg hz] at q1; exact q1.elim
        | _ => exact q1.elim
/-! ### [x for x in d], d a dict of one's own -/
def keyAsD : Key → D
  | .inl i => .int i
  | .inr x => .str x
def mKeys (i j : Nat) : Mo (List D) := fun ε => match ε[i]? with
  | some (.od (.dk qs)) => if qs.length ≤ 1000000 ∧ j < ε.length then some (.ok (qs.map fun q => keyAsD q.1) ε) else none
  | _ => none
theorem keys_rep {K : PySem.W.Frag} {F : Hp} : ∀ {kvs : List (Key × V)} {qs : List (Key × D)}, RepQ K F kvs qs → RepL K F (kvs.map fun kv => kV kv.1) (qs.map fun q => keyAsD q.1)
  | [], [], _ => .nil
  | (x, v) :: r, (y, d) :: t, h => by
    obtain ⟨h1, _, h3⟩ := h
    subst h1
    refine .cons ?_ (keys_rep h3)
    cases x with
    | inl i => exact .int i
    | inr z => exact .str z
  | [], _ :: _, h => h.elim
  | _ :: _, [], h => h.elim
theorem eo_keys {i j : Nat} (hp : PE X e (tLockE (tLc (iKeys (tVar i)) (gName j) tYes (tVar j) [j]))) : EvO X C W e (mKeys i j) := by
  refine ⟨_, hp, fun F H σ ε Q R q => ?_⟩
  unfold mKeys at q
  cases h0 : ε[i]? with
  | none => rw [h0] at q; exact q.elim
  | some en =>
    rw [h0] at q
    cases en with
    | od ob =>
      cases ob with
      | dk qs =>
        dsimp only at q
        by_cases hc : qs.length ≤ 1000000 ∧ j < ε.length
        · rw [if_pos hc] at q
          obtain ⟨l, o, a1, b1, c1, r, g1⟩ := R.ent i _ h0
          cases o with
          | dK kvs =>
            have r' : RepQ X.K F kvs qs := r
            have hjl : j < σ.length := by rw [R.len]; exact hc.2
            refine ⟨l, .dK kvs, b1, trivial, fun od => ⟨.ref l, a1, l, od, rfl, .inl ⟨kvs, upd_same, fun D hD => ?_⟩⟩⟩
            have Dl : D ≠ l := fun z => by rw [z, upd_same] at hD; cases hD
            have hD0 : H D = none := by rw [upd_ne Dl] at hD; exact hD
            let L : Nat → Hp := fun n => upd (upd H l (.frz od (.dK kvs))) D (.lst ((kvs.take n).map fun kv => kV kv.1))
            refine ⟨fun n m H' => m = kvs.length - n ∧ n ≤ kvs.length ∧ H' = L n, ⟨kvs.length, by simp, Nat.zero_le _, rfl⟩, ?_⟩
            rintro n m H' ⟨rfl, hn, rfl⟩
            have hl : L n l = some (.frz od (.dK kvs)) := by
              show (upd (upd H l (.frz od (.dK kvs))) D _) l = _
              rw [upd_ne (fun z => Dl z.symm), upd_same]
            by_cases hlt : n < kvs.length
            · refine .inr ⟨⟨hl, hlt⟩, fun H' => H' = L (n + 1), fun H' e => ⟨kvs.length - (n + 1), by omega, rfl, hlt, e⟩, fun x H' y => ?_⟩
              obtain ⟨rfl, k, v, hk, rfl⟩ := y
              have wp : L2.wipe ((L2.wipe σ [j]).set j (some (kV k))) [j] = L2.wipe σ [j] := by
                show ((σ.set j none).set j (some (kV k))).set j none = σ.set j none
                rw [List.set_set, List.set_set]
              refine ⟨wp, ?_⟩
              unfold tYes
              dsimp only
              rw [if_pos rfl]
              refine ⟨kV k, ?_, (kvs.take n).map fun kv => kV kv.1, upd_same, ?_, ?_⟩
              · show ((σ.set j none).set j (some (kV k)))[j]? = _
                rw [List.set_set, List.getElem?_set_self hjl]
              · rw [List.length_map, List.length_take]
                have : kvs.length ≤ 1000000 := by rw [r'.length]; exact hc.1
                exact Nat.lt_of_lt_of_le (show min n kvs.length < 1000001 by omega) (by decide)
              · show upd (upd (upd H l (.frz od (.dK kvs))) D _) D _ = upd (upd H l (.frz od (.dK kvs))) D _
                rw [upd_upd]
                congr 2
                have ht : kvs.take (n + 1) = kvs.take n ++ [kvs[n]] := by rw [List.take_succ, List.getElem?_eq_getElem hlt]; rfl
                have hv : kvs[n] = (k, v) := by rw [List.getElem?_eq_getElem hlt] at hk; exact Option.some.inj hk
                rw [ht, List.map_append, hv]
                rfl
            · have hn2 : n = kvs.length := by omega
              subst hn2
              refine .inl ⟨⟨hl, Nat.le_refl _⟩, hl, ?_⟩
              have ef : upd (L kvs.length) l (.dK kvs) = upd H D (.lst (kvs.map fun kv => kV kv.1)) := by
                funext b
                show upd (upd (upd H l (.frz od (.dK kvs))) D (.lst ((kvs.take kvs.length).map fun kv => kV kv.1))) l (.dK kvs) b = _
                rw [List.take_length]
                by_cases hb : b = l
                · subst hb
                  rw [upd_same, upd_ne (fun z => Dl z.symm), b1]
                · rw [upd_ne hb]
                  by_cases hb2 : b = D
                  · subst hb2; rw [upd_same, upd_same]
                  · rw [upd_ne hb2, upd_ne hb, upd_ne hb2]
              rw [ef]
              exact ok_new R R Stp.refl (keys_rep r') q hD0
          | _ => exact r.elim
        · rw [if_neg hc] at q; exact q.elim
      | _ => exact q.elim
    | _ => exact q.elim
end
end DL

set_option Elab.async false
set_option linter.all false
set_option maxRecDepth 100000
namespace DL
open PySem PySem.Spec L2
section
variable {X : Cx} {C : Ct} {W : WX} {a b e e1 e2 o : Expr} {pos apos : Pos} {f g : Mo D} {s : Stmt}
def sevenNames : List String := ["NoneType", "bool", "int", "str", "tuple", "list", "dict"]
theorem ty_seven {d : D} {n : String} (h : tyName d = some n) : n ∈ sevenNames := by
  cases d <;> simp [tyName] at h <;> subst h <;> decide
/-! ### isinstance(x, C), C a class of one's own -/
structure IsiC (K : PySem.W.Frag) (c : Str) (Ca : Addr) : Prop where
  ns : PySem.W.nsIn K mainGlobals c = some (some (.ref Ca))
  cl : Cls K Ca
  f1 : PySem.W.findIn K (.ref Ca) "__class__" = some (some (.builtin "object.__class__"))
  f2 : PySem.W.specialIn K (.builtin "object.__class__") "__get__" = some (some (.builtin "getset_descriptor.__get__"))
  f3 : PySem.W.takesIn K (.builtin "object.__class__") = some true
  f4 : PySem.W.mroIn K Ca (.type "object") = some true
  no : ∀ n ∈ sevenNames, PySem.W.kitOne K (.type n) (.ref Ca) = some false
  nf : ∀ n ∈ sevenNames, PySem.W.notFirst K Ca (.type n) = true
theorem all7 {Q : String → Prop} (h1 : Q "NoneType") (h2 : Q "bool") (h3 : Q "int") (h4 : Q "str") (h5 : Q "tuple") (h6 : Q "list") (h7 : Q "dict") : ∀ n ∈ sevenNames, Q n := fun n hn => by
  simp only [sevenNames, List.mem_cons, List.not_mem_nil, or_false] at hn
  rcases hn with rfl | rfl | rfl | rfl | rfl | rfl | rfl <;> assumption
theorem nf_of {K : PySem.W.Frag} {Ca : Addr} {t : Value} (h : PySem.W.subIn K t (.ref Ca) = some false) : PySem.W.notFirst K Ca t = true := by
  simp [PySem.W.notFirst, h]
theorem IsiC.ty {K : PySem.W.Frag} {c : Str} {Ca : Addr} (T : IsiC K c Ca) {F H : Hp} {v : V} {d : D} {qs : List (Str × D)} (s : Same F H) (r : RepD K F v d) (h : partsOf c d = some qs) : ∃ p dx fs, v = .ref p ∧ H p = some (.ins Ca dx fs) ∧ RepQ K F fs qs ∧ TyX K H v (.ref Ca) := by
  obtain ⟨p, C2, dx, fs, rfl, n2, h1, rq⟩ := parts_rep r h
  rw [T.ns] at n2
  cases n2
  exact ⟨p, dx, fs, rfl, s _ _ h1, rq, .base (.ins (s _ _ h1) T.cl T.f1 T.f2 T.f3 T.f4)⟩
def isO (c : Str) (d : D) : Option D := match partsOf c d with
  | some _ => some (.bl true)
  | none => (tyName d).map fun _ => .bl false
def mIsO (c : Str) (f : Mo D) : Mo D := bnd f fun d => lft (isO c d)
theorem ev_isO {c : Str} {Ca : Addr} (T : IsiC X.K c Ca) (hf : EvD X C W e1 f) (pp : ∀ t, PE X e1 t → PA X [e1, e2] (tCons t (tCons (tC (.ref Ca)) tNil))) (hp : ∀ ta, PA X [e1, e2] ta → PE X e (tCB (rIsi X.K) ta)) : EvD X C W e (mIsO c f) := by
  obtain ⟨t1, p1, s1⟩ := hf
  refine ⟨_, hp _ (pp _ p1), fun F H σ ε Q R q => ?_⟩
  refine s1 F H σ ε _ R (q.bind.imp (fun d e q1 v F1 H1 R1 st1 r1 => ?_) fun x e z => z)
  unfold lft isO at q1
  cases hq : partsOf c d with
  | some qs =>
    rw [hq] at q1
    obtain ⟨p, dx, fs, rfl, h1, rq, ty⟩ := T.ty R1.fh r1 hq
    exact ⟨.ref p, .ref Ca, .ref Ca, .ref Ca, true, rfl, .own Ca, ty, by simp [PySem.W.kitOne], q1 (.bl true) F1 H1 R1 st1 (.bl true)⟩
  | none =>
    rw [hq] at q1
    cases hn : tyName d with
    | none => rw [hn] at q1; exact q1.elim
    | some n =>
      rw [hn] at q1
      exact ⟨v, .ref Ca, .type n, .ref Ca, false, rfl, .own Ca, ty_of R1.fh r1 hn, T.no n (ty_seven hn), q1 (.bl false) F1 H1 R1 st1 (.bl false)⟩
/-! ### x == y by an own __eq__ -/
def tEqOS (Ca : Addr) (sp : Sp) (E : St → XK) (ta tb : TE) : TE := fun σ H Q => ta σ H fun x H1 => tb σ H1 fun y H2 => ∃ p dx fs t, x = .ref p ∧ H2 p = some (.ins Ca dx fs) ∧ TyX X.K H2 y t ∧ PySem.W.notFirst X.K Ca t = true ∧ sp [x, y] H2 Q (E σ)
theorem pe_eqO {k : Nat} {Ca fa : Addr} {fd : FuncData} {ps : List Str} {sp : Sp} {E : St → XK} {ta tb : TE} (ha : PE X a ta) (hb : PE X b tb) (hu : X.A.units < cLine) (F : FnOk X.prog X.w X.K X.mg X.base (L2.CX X.prog X.w) k fa fd ps sp) (hs : PySem.W.findIn X.K (.ref Ca) "__eq__" = some (some (.ref fa))) (hf : PySem.W.isFn X.K (.ref fa) = true) (hr : Room k X.A) (hbd : Binds X.K fd ps []) (hx : ∀ σ, PassesAt (L2.CX X.prog X.w) X σ (E σ)) : PE X (.Compare a [.Eq] [b] pos) (tEqOS (X := X) Ca sp E ta tb) := by
  refine ⟨fun pins s σ H Q I h => ?_⟩
  refine wpAny_Compare1 (binT ha hb I h fun v u s2 x y H2 I2 rx ry q => ?_) (nomark _)
  obtain ⟨p, dx, fs, t, rfl, h1, ty, nf, q⟩ := q
  obtain rfl : v = Value.ref p := rx
  obtain ⟨P, Z, hp, _⟩ := kit_of I2 ry ty
  obtain ⟨mA, J, _⟩ := ins_get I2.hok h1
  obtain ⟨od, J, _⟩ := J.look
  obtain ⟨m, hF⟩ := I2.fr
  show wpAny (model X.prog X.w) X.A (richCompare .Eq (.ref p) u) (EP X pins σ Q) X.xe s2
  refine PySem.W.cmp_K (op := .Eq) hu hF I2.ok.mod.kin J (Z.ty _ _ I2.kIn hp) nf hs hf ?_
  refine wpAny_mono (run_fnS (us := [.ref p, u]) (vs := [.ref p, y]) F hr hbd (hx σ) I2 (.cons rfl (.cons ry .nil)) q) (fun r s3 z => ?_) fun _ _ x => x
  obtain ⟨w, H3, I3, rw', q3⟩ := z
  have z' : EP X pins σ Q r s3 := ⟨w, H3, I3, rw', q3⟩
  cases r <;> first | exact z' | (cases w <;> first | exact nomatch rw' | cases rw')
structure EqOk (P : Program) (w : World) (K : PySem.W.Frag) (mg : Str → Option Value) (base : Heap) (k : Nat) (c : Str) (mm : List D → Option Ans) (Ca fa : Addr) (fd : FuncData) (ps : List Str) : Prop where
  ic : IsiC K c Ca
  eq : PySem.W.findIn K (.ref Ca) "__eq__" = some (some (.ref fa))
  isf : PySem.W.isFn K (.ref fa) = true
  fn : FnOk P w K mg base (L2.CX P w) k fa fd ps (SpP K 2 mm)
  bd : Binds K fd ps []
def mEqO (c : Str) (mm : List D → Option Ans) (f g : Mo D) : Mo D := bnd f fun d => match partsOf c d with
  | some _ => bnd g fun e => if (tyName e).isSome = true ∨ (partsOf c e).isSome = true then ansM (mm [d, e]) else lft none
  | none => lft none
theorem ev_eqO {k : Nat} {c : Str} {mm : List D → Option Ans} {Ca fa : Addr} {fd : FuncData} {ps : List Str} (T : EqOk X.prog X.w X.K X.mg X.base k c mm Ca fa fd ps) (hu : X.A.units < cLine) (tk : Takes X W) (hr : Room k X.A) (ha : EvD X C W a f) (hb : EvD X C W b g) : EvD X C W (.Compare a [.Eq] [b] pos) (mEqO c mm f g) := by
  obtain ⟨ta, p0, s0⟩ := ha
  obtain ⟨tb, p1, s1⟩ := hb
  refine ⟨_, pe_eqO (E := WE W) p0 p1 hu T.fn T.eq T.isf hr T.bd (fun σ => passAt tk σ), fun F H σ ε Q R q => ?_⟩
  refine s0 F H σ ε _ R (q.bind.imp (fun d e q1 v F1 H1 R1 st1 r1 => ?_) fun x e z => z)
  cases hq : partsOf c d with
  | none => rw [hq] at q1; exact q1.elim
  | some qs =>
    rw [hq] at q1
    dsimp only at q1
    refine s1 F1 H1 σ e _ R1 (q1.bind.imp (fun d2 e2 q2 v2 F2 H2 R2 st2 r2 => ?_) fun x e z => z.imp st1)
    by_cases ht : (tyName d2).isSome = true ∨ (partsOf c d2).isSome = true
    · rw [if_pos ht] at q2
      obtain ⟨p, dx, fs, rfl, h1, rq, _⟩ := T.ic.ty R2.fh (r1.mono st2.ff) hq
      obtain ⟨t, ty, nf⟩ : ∃ t, TyX X.K H2 v2 t ∧ PySem.W.notFirst X.K Ca t = true := by
        cases hp : partsOf c d2 with
        | some q2' =>
          obtain ⟨_, _, _, _, _, _, ty⟩ := T.ic.ty R2.fh r2 hp
          exact ⟨_, ty, by simp [PySem.W.notFirst]⟩
        | none =>
          rw [hp] at ht
          obtain ⟨n, hn⟩ := Option.isSome_iff_exists.mp (ht.resolve_right (by simp))
          exact ⟨_, ty_of R2.fh r2 hn, T.ic.nf n (ty_seven hn)⟩
      exact ⟨p, dx, fs, t, rfl, h1, ty, nf, sp_go (ds := [d2]) (n := 2) (mm := mm) (by rw [if_pos (show [d2].length + 1 = 2 from rfl)]; exact q2) R2 (st1.trans st2) (r1.mono st2.ff) (.cons r2 .nil)⟩
    · rw [if_neg ht] at q2; exact q2.elim
end
end DL

set_option Elab.async false
set_option linter.all false
set_option maxRecDepth 100000
namespace DL
open PySem PySem.Spec L2
section
variable {X : Cx} {C : Ct} {W : WX} {a b e o : Expr} {es : List Expr} {pos apos : Pos} {f g : Mo D} {s : Stmt}
/-! ### xs.insert(k, v) -/
def rIns : V → List V → Hp → VK → Prop := fun x vs H Q => ∃ (l : Addr) (xs : List V) (i : Int) (y : V), x = .ref l ∧ vs = [.int i, y] ∧ H l = some (.lst xs) ∧ xs.length < sizeLine ∧ 0 ≤ i ∧ i < 2 ^ 63 ∧ Q .non (upd H l (.lst (xs.take i.toNat ++ [y] ++ xs.drop i.toNat)))
theorem mt_ins : MtR X "list.insert" rIns := mt_insert
def insArg : List D → Option (Int × D)
  | [.int j, d] => some (j, d)
  | _ => none
theorem insArg_eq {ds : List D} {j : Int} {d : D} (h : insArg ds = some (j, d)) : ds = [.int j, d] := by
  unfold insArg at h
  split at h
  · cases h; rfl
  · cases h
def mIns (i : Nat) (fa : Mo (List D)) : MoS := fun ε0 => match (ε0[i]?).bind Ent.get with
  | none => none
  | some _ => mThen fa (fun ds ε => match ε[i]?, insArg ds with
    | some e, some (j, d) => (match e.get with
      | none => none
      | some ps => if ps.length < 1000000 ∧ 0 ≤ j ∧ j < 1000000000 then some (.nx (ε.set i (e.put (ps.take j.toNat ++ [d] ++ ps.drop j.toNat)))) else none)
    | _, _ => none) ε0
theorem st_ins {i : Nat} {fa : Mo (List D)} (hp : ∀ ta, PA X es ta → PS X s (tDrop (tBM X.K "list" rIns (tVar i) ta))) (ha : EaD X C W es fa) : StD X C W s (mIns i fa) := by
  obtain ⟨ta, p, sa⟩ := ha
  refine ⟨_, hp _ p, fun F H σ ε D R q => ?_⟩
  unfold mIns at q
  cases h0 : ε[i]? with
  | none => rw [h0] at q; exact q.elim
  | some e0 =>
    cases h1 : e0.get with
    | none => rw [h0] at q; simp only [Option.bind_some, h1] at q; exact q.elim
    | some p0 =>
      rw [h0] at q
      simp only [Option.bind_some, h1] at q
      obtain ⟨l, us0, a0, b0, _⟩ := R.at h0 h1
      refine ⟨.ref l, a0, .inl ⟨rfl, us0, .inl (.inl b0)⟩, ?_⟩
      refine sa F H σ ε _ R ((then_good q).imp (fun ds e q1 vs F1 H1 R1 st1 r1 => ?_) fun x e z => z)
      cases h2 : e[i]? with
      | none => rw [h2] at q1; exact q1.elim
      | some e1 =>
        rw [h2] at q1
        cases hi : insArg ds with
        | none => rw [hi] at q1; exact q1.elim
        | some jd =>
          obtain ⟨j, d⟩ := jd
          rw [hi] at q1
          have hds := insArg_eq hi
          subst hds
          dsimp only at q1
          cases h3 : e1.get with
          | none => rw [h3] at q1; exact q1.elim
          | some ps =>
            rw [h3] at q1
            dsimp only at q1
            by_cases hz : ps.length < 1000000 ∧ 0 ≤ j ∧ j < 1000000000
            · rw [if_pos hz] at q1
              cases r1 with
              | cons ra r1 => cases r1 with
                | cons rb r1 =>
                  cases r1
                  obtain rfl := rep_int ra
                  obtain ⟨l2, us, a, b, c, d', hm⟩ := R1.at h2 h3
                  rw [a0] at a
                  cases a
                  obtain ⟨R2, st2⟩ := R1.callQ (F' := F1) (H' := upd H1 l (.lst (us.take j.toNat ++ [_] ++ us.drop j.toNat))) (ps' := ps.take j.toNat ++ [d] ++ ps.drop j.toNat) h2 h3 a0 (Same.refl F1) (fun x o q => by
                    rw [upd_ne (fun z => by rw [z, c] at q; cases q)]; exact R1.fh x o q) (fun x o q n => by rw [upd_ne n]; exact q) (fun _ _ => rfl) upd_same (((d'.take _).append (.cons rb .nil)).append (d'.drop _))
                  exact ⟨l, us, j, _, rfl, rfl, b, by rw [d'.length]; exact Nat.lt_of_lt_of_le hz.1 (by decide), hz.2.1, Int.lt_trans hz.2.2 (by decide), q1 F1 _ σ R2 st1.ff⟩
            · rw [if_neg hz] at q1; exact q1.elim
/-! ### xs.pop(k) -/
theorem RepL.erase {K : PySem.W.Frag} {F : Hp} : ∀ {vs : List V} {ds : List D} (n : Nat), RepL K F vs ds → RepL K F (vs.eraseIdx n) (ds.eraseIdx n)
  | _, _, _, .nil => .nil
  | _, _, 0, .cons _ r => r
  | _, _, n + 1, .cons h r => .cons h (RepL.erase n r)
def mPopAt (i : Nat) (fk : Mo D) : Mo D := fun ε0 => match (ε0[i]?).bind Ent.get with
  | none => none
  | some _ => bnd fk (fun k ε => match ε[i]?, k with
    | some e, .int j => (match e.get with
      | none => none
      | some ps => if ps.length < 1000000 ∧ 0 ≤ j then (match ps[j.toNat]? with
        | some d => some (.ok d (ε.set i (e.put (ps.eraseIdx j.toNat))))
        | none => none) else none)
    | _, _ => none) ε0
theorem ev_popAt {i : Nat} (hp : ∀ tk, PE X a tk → PE X e (tBM X.K "list" rPopAt (tVar i) (tCons tk tNil))) (ha : EvD X C W a f) : EvD X C W e (mPopAt i f) := by
  obtain ⟨te, p, sd⟩ := ha
  refine ⟨_, hp _ p, fun F H σ ε Q R q => ?_⟩
  unfold mPopAt at q
  cases h0 : ε[i]? with
  | none => rw [h0] at q; exact q.elim
  | some e0 =>
    cases h1 : e0.get with
    | none => rw [h0] at q; simp only [Option.bind_some, h1] at q; exact q.elim
    | some p0 =>
      rw [h0] at q
      simp only [Option.bind_some, h1] at q
      obtain ⟨l, us0, a0, b0, _⟩ := R.at h0 h1
      refine ⟨.ref l, a0, .inl ⟨rfl, us0, .inl (.inl b0)⟩, ?_⟩
      refine sd F H σ ε _ R (q.bind.imp (fun k e q1 v F1 H1 R1 st1 r1 => ?_) fun x e z => z)
      cases h2 : e[i]? with
      | none => rw [h2] at q1; exact q1.elim
      | some e1 =>
        rw [h2] at q1
        cases k with
        | int j =>
          dsimp only at q1
          cases h3 : e1.get with
          | none => rw [h3] at q1; exact q1.elim
          | some ps =>
            rw [h3] at q1
            dsimp only at q1
            by_cases hz : ps.length < 1000000 ∧ 0 ≤ j
            · rw [if_pos hz] at q1
              cases h4 : ps[j.toNat]? with
              | none => rw [h4] at q1; exact q1.elim
              | some y =>
                rw [h4] at q1
                obtain rfl := rep_int r1
                obtain ⟨l2, us, a, b, c, d', hm⟩ := R1.at h2 h3
                rw [a0] at a
                cases a
                obtain ⟨hlt, _⟩ := List.getElem?_eq_some_iff.mp h4
                obtain ⟨v, hv, rv⟩ := d'.get h4
                obtain ⟨R2, st2⟩ := R1.callQ (F' := F1) (H' := upd H1 l (.lst (us.eraseIdx j.toNat))) (ps' := ps.eraseIdx j.toNat) h2 h3 a0 (Same.refl F1) (fun x o q => by
                  rw [upd_ne (fun z => by rw [z, c] at q; cases q)]; exact R1.fh x o q) (fun x o q n => by rw [upd_ne n]; exact q) (fun _ _ => rfl) upd_same (d'.erase _)
                have hj : (j.toNat : Int) = j := Int.toNat_of_nonneg hz.2
                have hn : j < 1000000 := by omega
                refine ⟨l, us, j, j.toNat, v, rfl, rfl, b, by omega, by omega, ?_, hv, q1 v F1 _ R2 (st1.trans st2) rv⟩
                unfold seqIndex?
                rw [d'.length]
                have h5 : ¬ j < 0 := by omega
                have h6 : j < (ps.length : Int) := by omega
                simp [h5, h6, hz.2]
            · rw [if_neg hz] at q1; exact q1.elim
        | _ => exact q1.elim
end
end DL

set_option Elab.async false
set_option linter.all false
set_option maxRecDepth 100000
namespace DL
open PySem PySem.Spec L2 PyProof.Rows
section
variable {X : Cx} {C : Ct} {W : WX} {a b c d e : Expr} {pos : Pos} {f g h f4 : Mo D} {ta tb tc td : TE}
/-! ### a op1 b op2 c op3 d -/
def tChain3 (r r' r'' : R2) (ta tb tc td : TE) : TE := fun σ H Q => ta σ H fun x H1 => tb σ H1 fun y H2 => r x y H2 fun z H3 => ∃ k, z = .bl k ∧
  (if k = true then tc σ H3 fun w H4 => r' y w H4 fun z2 H5 => ∃ k2, z2 = .bl k2 ∧ (if k2 = true then td σ H5 fun u H6 => r'' w u H6 Q else Q (.bl false) H5) else Q (.bl false) H3)
theorem pt_chain3 {op op' op'' : CmpOp} {r r' r'' : R2} (ho : OpR X (compareOp op) r) (ho' : OpR X (compareOp op') r') (ho'' : OpR X (compareOp op'') r'') (ha : PE X a ta) (hb : PE X b tb) (hc : PE X c tc) (hd : PE X d td)
    (hm : lastMarks [op, op', op''] [b, c, d] = false := by with_unfolding_all rfl) : PT X (.Compare a [op, op', op''] [b, c, d] pos) (tTest (tChain3 r r' r'' ta tb tc td)) := by
  refine ⟨fun pins s σ H Q I h => ?_⟩
  refine isTrue_chain (thn (ha.run pins s σ H _ I h) fun v s1 ⟨x, H1, I1, r1, q1⟩ => test_link (thn (hb.run pins s1 σ H1 _ I1 q1) fun u s2 ⟨y, H2, I2, r2, q2⟩ =>
    thn (ho pins s2 σ H2 x y v u _ I2 r1 r2 q2) fun d s3 ⟨z, H3, I3, r3, k, e, q3⟩ => ?_)) hm
  subst e
  cases r3
  refine wpAny_truthy_bool ?_
  cases k with
  | false =>
    obtain ⟨k', e', q'⟩ := q3
    cases e'
    exact ite_ff ⟨H3, I3, q'⟩
  | true =>
    refine ite_tt (test_link (thn (hc.run pins s3 σ H3 _ I3 q3) fun w' s4 ⟨z', H4, I4, r4, q4⟩ => thn (ho' pins s4 σ H4 y z' u w' _ I4 r2 r4 q4) fun d' s5 ⟨z2, H5, I5, r5, k2, e2, q5⟩ => ?_))
    subst e2
    cases r5
    refine wpAny_truthy_bool ?_
    cases k2 with
    | false =>
      obtain ⟨k', e', q'⟩ := q5
      cases e'
      exact ite_ff ⟨H5, I5, q'⟩
    | true =>
      refine ite_tt (test_last (thn (hd.run pins s5 σ H5 _ I5 q5) fun w2 s6 ⟨z6, H6, I6, r6, q6⟩ => thn (ho'' pins s6 σ H6 z' z6 w' w2 _ I6 r4 r6 q6) fun d7 s7 ⟨z7, H7, I7, r7, k7, e7, q7⟩ => ?_))
      subst e7
      cases r7
      exact wpAny_truthy_bool ⟨H7, I7, q7⟩
def mChain3 (g1 g2 g3 : D → D → Option D) (f g h f4 : Mo D) : Mo D := bnd f fun x => bnd g fun y => bnd (mB (lft (g1 x y))) fun k => if k = true then bnd h fun z => bnd (mB (lft (g2 y z))) fun k2 => if k2 = true then bnd f4 fun w => lft (g3 z w) else pur (.bl false) else pur (.bl false)
theorem sd_chain3 {K : PySem.W.Frag} {r r' r'' : R2} {g1 g2 g3 : D → D → Option D} (hv : VOp K r g1) (hv' : VOp K r' g2) (hv'' : VOp K r'' g3) (s0 : SdE K C W ta f) (s1 : SdE K C W tb g) (s2 : SdE K C W tc h) (s3 : SdE K C W td f4) : SdE K C W (tChain3 r r' r'' ta tb tc td) (mChain3 g1 g2 g3 f g h f4) := fun F H σ ε Q R q => by
  refine s0 F H σ ε _ R (q.bind.imp (fun d e q1 v F1 H1 R1 st1 r1 => ?_) fun x e z => z)
  refine s1 F1 H1 σ e _ R1 (q1.bind.imp (fun d2 e2 q2 v2 F2 H2 R2 st2 r2 => ?_) fun x e z => z.imp st1)
  have q3 := good_mB q2.bind
  unfold lft at q3
  cases hk : g1 d d2 with
  | none => rw [hk] at q3; exact q3.elim
  | some k =>
    rw [hk] at q3
    obtain ⟨kb, ek, q4⟩ := q3
    subst ek
    refine hv F2 H2 v v2 d d2 _ _ R2.fh (r1.mono st2.ff) r2 hk fun w F3 H3 st3 rw' => ⟨kb, rep_bl rw', ?_⟩
    have R3 := R2.step st3
    have st13 := (st1.trans st2).trans st3.stp
    cases kb with
    | false => exact iteF (q4 (.bl false) F3 H3 R3 st13 (.bl false))
    | true =>
      refine iteT ?_
      rw [if_pos rfl] at q4
      refine s2 F3 H3 σ e2 _ R3 (q4.bind.imp (fun d5 e5 q5 v5 F5 H5 R5 st5 r5 => ?_) fun x e z => z.imp st13)
      have q6 := good_mB q5.bind
      unfold lft at q6
      cases hk2 : g2 d2 d5 with
      | none => rw [hk2] at q6; exact q6.elim
      | some k2 =>
        rw [hk2] at q6
        obtain ⟨kb2, ek2, q7⟩ := q6
        subst ek2
        refine hv' F5 H5 v2 v5 d2 d5 _ _ R5.fh ((r2.mono st3.ff).mono st5.ff) r5 hk2 fun w6 F6 H6 st6 rw6 => ⟨kb2, rep_bl rw6, ?_⟩
        have R6 := R5.step st6
        have st16 := (st13.trans st5).trans st6.stp
        cases kb2 with
        | false => exact iteF (q7 (.bl false) F6 H6 R6 st16 (.bl false))
        | true =>
          refine iteT ?_
          rw [if_pos rfl] at q7
          refine s3 F6 H6 σ e5 _ R6 (q7.bind.imp (fun d8 e8 q8 v8 F8 H8 R8 st8 r8 => ?_) fun x e z => z.imp st16)
          unfold lft at q8
          cases hk3 : g3 d5 d8 with
          | none => rw [hk3] at q8; exact q8.elim
          | some k3 =>
            rw [hk3] at q8
            exact hv'' F8 H8 v5 v8 d5 d8 _ _ R8.fh ((r5.mono st6.ff).mono st8.ff) r8 hk3 fun w9 F9 H9 st9 rw9 => q8 w9 F9 H9 (R8.step st9) ((st16.trans st8).trans st9.stp) rw9
theorem te_chain3 {r r' r'' : R2} {g1 g2 g3 : D → D → Option D} (hv : VOp X.K r g1) (hv' : VOp X.K r' g2) (hv'' : VOp X.K r'' g3) (ha : EvD X C W a f) (hb : EvD X C W b g) (hc : EvD X C W c h) (hd : EvD X C W d f4)
    (hp : ∀ ta tb tc td, PE X a ta → PE X b tb → PE X c tc → PE X d td → PT X e (tTest (tChain3 r r' r'' ta tb tc td))) : TeD X C W e (mB (mChain3 g1 g2 g3 f g h f4)) := by
  obtain ⟨ta, p0, s0⟩ := ha
  obtain ⟨tb, p1, s1⟩ := hb
  obtain ⟨tc, p2, s2⟩ := hc
  obtain ⟨td, p3, s3⟩ := hd
  exact ⟨_, hp _ _ _ _ p0 p1 p2 p3, sd_test (sd_chain3 hv hv' hv'' s0 s1 s2 s3)⟩
end
end DL

set_option Elab.async false
set_option linter.all false
set_option maxRecDepth 100000
set_option maxHeartbeats 4000000
namespace LW
open PySem PySem.Spec L2 DL
def topS (i : Nat) : Stmt := PySem.Challenge.pw_easelwork_k11_curves.main.body.getD i (.Pass ⟨0, 0, 0, 0⟩)
abbrev s_are_points : Stmt := topS 16
abbrev N_are_points : List Str := ["points", "point", "first", "second", "_", "y"]
theorem sc_are_points : FnScope N_are_points ["points"] (defScope s_are_points) := ⟨rfl, rfl, rfl, by decide +kernel, rfl, by decide +kernel, by decide +kernel⟩
abbrev s_heights : Stmt := topS 17
abbrev N_heights : List Str := ["points", "out", "x0", "y0", "x1", "y1", "wide", "v"]
theorem sc_heights : FnScope N_heights ["points"] (defScope s_heights) := ⟨rfl, rfl, rfl, by decide +kernel, rfl, by decide +kernel, by decide +kernel⟩
abbrev s_law_draws : Stmt := topS 19
abbrev N_law_draws : List Str := ["script", "at", "count", "cell", "rows", "rest", "k", "seed"]
theorem sc_law_draws : FnScope N_law_draws ["script", "at", "count"] (defScope s_law_draws) := ⟨rfl, rfl, rfl, by decide +kernel, rfl, by decide +kernel, by decide +kernel⟩
abbrev s_law_take : Stmt := topS 21
abbrev N_law_take : List Str := ["pool", "many"]
theorem sc_law_take : FnScope N_law_take ["pool", "many"] (defScope s_law_take) := ⟨rfl, rfl, rfl, by decide +kernel, rfl, by decide +kernel, by decide +kernel⟩
abbrev s_law_whole : Stmt := topS 23
abbrev N_law_whole : List Str := ["got"]
theorem sc_law_whole : FnScope N_law_whole ["got"] (defScope s_law_whole) := ⟨rfl, rfl, rfl, by decide +kernel, rfl, by decide +kernel, by decide +kernel⟩
def s_Curve_call : Stmt := match topS 15 with
  | .ClassDef _ _ _ b _ _ _ _ _ _ _ => b.getD 2 (.Pass ⟨0, 0, 0, 0⟩)
  | s => s
abbrev N_Curve_call : List Str := ["self", "v"]
theorem sc_Curve_call : FnScope N_Curve_call ["self", "v"] (defScope s_Curve_call) := ⟨rfl, rfl, rfl, by decide +kernel, rfl, by decide +kernel, by decide +kernel⟩
abbrev s_law_pool : Stmt := topS 20
abbrev N_law_pool : List Str := ["script", "cells", "count", "rows", "at"]
theorem sc_law_pool : FnScope N_law_pool ["script", "cells", "count"] (defScope s_law_pool) := ⟨rfl, rfl, rfl, by decide +kernel, rfl, by decide +kernel, by decide +kernel⟩
abbrev s_law_pick : Stmt := topS 22
abbrev N_law_pick : List Str := ["pool", "rows"]
theorem sc_law_pick : FnScope N_law_pick ["pool", "rows"] (defScope s_law_pick) := ⟨rfl, rfl, rfl, by decide +kernel, rfl, by decide +kernel, by decide +kernel⟩
abbrev s_law_line : Stmt := topS 31
abbrev N_law_line : List Str := ["curve", "points", "k", "x", "y", "wide", "rise", "v", "t", "exact"]
theorem sc_law_line : FnScope N_law_line ["curve", "points"] (defScope s_law_line) := ⟨rfl, rfl, rfl, by decide +kernel, rfl, by decide +kernel, by decide +kernel⟩
abbrev s_law_rises : Stmt := topS 32
abbrev N_law_rises : List Str := ["curve", "points", "k", "last", "v"]
theorem sc_law_rises : FnScope N_law_rises ["curve", "points"] (defScope s_law_rises) := ⟨rfl, rfl, rfl, by decide +kernel, rfl, by decide +kernel, by decide +kernel⟩
abbrev s_law_value : Stmt := topS 25
abbrev N_law_value : List Str := ["pool"]
theorem sc_law_value : FnScope N_law_value ["pool"] (defScope s_law_value) := ⟨rfl, rfl, rfl, by decide +kernel, rfl, by decide +kernel, by decide +kernel⟩
abbrev s_law_faulty : Stmt := topS 27
abbrev N_law_faulty : List Str := ["pool", "points", "rows", "way", "at", "kept_here", "k"]
theorem sc_law_faulty : FnScope N_law_faulty ["pool", "points"] (defScope s_law_faulty) := ⟨rfl, rfl, rfl, by decide +kernel, rfl, by decide +kernel, by decide +kernel⟩
abbrev s_law_off : Stmt := topS 29
abbrev N_law_off : List Str := ["pool", "four", "way"]
theorem sc_law_off : FnScope N_law_off ["pool", "four"] (defScope s_law_off) := ⟨rfl, rfl, rfl, by decide +kernel, rfl, by decide +kernel, by decide +kernel⟩
def s_Curve_init : Stmt := match topS 15 with
  | .ClassDef _ _ _ b _ _ _ _ _ _ _ => b.getD 0 (.Pass ⟨0, 0, 0, 0⟩)
  | s => s
abbrev N_Curve_init : List Str := ["self", "points"]
theorem sc_Curve_init : FnScope N_Curve_init ["self", "points"] (defScope s_Curve_init) := ⟨rfl, rfl, rfl, by decide +kernel, rfl, by decide +kernel, by decide +kernel⟩
abbrev s_law_same : Stmt := topS 24
abbrev N_law_same : List Str := ["got", "due", "k"]
theorem sc_law_same : FnScope N_law_same ["got", "due"] (defScope s_law_same) := ⟨rfl, rfl, rfl, by decide +kernel, rfl, by decide +kernel, by decide +kernel⟩
abbrev s_law_points : Stmt := topS 26
abbrev N_law_points : List Str := ["pool", "many", "held", "last", "k", "x", "xs", "ys"]
theorem sc_law_points : FnScope N_law_points ["pool"] (defScope s_law_points) := ⟨rfl, rfl, rfl, by decide +kernel, rfl, by decide +kernel, by decide +kernel⟩
abbrev s_law_levels : Stmt := topS 28
abbrev N_law_levels : List Str := ["pool", "black", "white"]
theorem sc_law_levels : FnScope N_law_levels ["pool"] (defScope s_law_levels) := ⟨rfl, rfl, rfl, by decide +kernel, rfl, by decide +kernel, by decide +kernel⟩
abbrev s_law_is : Stmt := topS 33
abbrev N_law_is : List Str := ["curve", "points"]
theorem sc_law_is : FnScope N_law_is ["curve", "points"] (defScope s_law_is) := ⟨rfl, rfl, rfl, by decide +kernel, rfl, by decide +kernel, by decide +kernel⟩
def s_Curve_eq : Stmt := match topS 15 with
  | .ClassDef _ _ _ b _ _ _ _ _ _ _ => b.getD 1 (.Pass ⟨0, 0, 0, 0⟩)
  | s => s
abbrev N_Curve_eq : List Str := ["self", "other"]
theorem sc_Curve_eq : FnScope N_Curve_eq ["self", "other"] (defScope s_Curve_eq) := ⟨rfl, rfl, rfl, by decide +kernel, rfl, by decide +kernel, by decide +kernel⟩
def s_Curve_identity : Stmt := match topS 15 with
  | .ClassDef _ _ _ b _ _ _ _ _ _ _ => b.getD 3 (.Pass ⟨0, 0, 0, 0⟩)
  | s => s
abbrev N_Curve_identity : List Str := []
theorem sc_Curve_identity : FnScope N_Curve_identity [] (defScope s_Curve_identity) := ⟨rfl, rfl, rfl, by decide +kernel, rfl, by decide +kernel, by decide +kernel⟩
def s_Curve_inverted : Stmt := match topS 15 with
  | .ClassDef _ _ _ b _ _ _ _ _ _ _ => b.getD 4 (.Pass ⟨0, 0, 0, 0⟩)
  | s => s
abbrev N_Curve_inverted : List Str := []
theorem sc_Curve_inverted : FnScope N_Curve_inverted [] (defScope s_Curve_inverted) := ⟨rfl, rfl, rfl, by decide +kernel, rfl, by decide +kernel, by decide +kernel⟩
def s_Curve_levels : Stmt := match topS 15 with
  | .ClassDef _ _ _ b _ _ _ _ _ _ _ => b.getD 5 (.Pass ⟨0, 0, 0, 0⟩)
  | s => s
abbrev N_Curve_levels : List Str := ["black", "white", "low", "high"]
theorem sc_Curve_levels : FnScope N_Curve_levels ["black", "white", "low", "high"] (defScope s_Curve_levels) := ⟨rfl, rfl, rfl, by decide +kernel, rfl, by decide +kernel, by decide +kernel⟩
def s_Curve_threshold : Stmt := match topS 15 with
  | .ClassDef _ _ _ b _ _ _ _ _ _ _ => b.getD 6 (.Pass ⟨0, 0, 0, 0⟩)
  | s => s
abbrev N_Curve_threshold : List Str := ["n", "points"]
theorem sc_Curve_threshold : FnScope N_Curve_threshold ["n"] (defScope s_Curve_threshold) := ⟨rfl, rfl, rfl, by decide +kernel, rfl, by decide +kernel, by decide +kernel⟩
abbrev s_law_refused : Stmt := topS 30
abbrev N_law_refused : List Str := ["way", "row", "told", "e", "other"]
theorem sc_law_refused : FnScope N_law_refused ["way", "row"] (defScope s_law_refused) := ⟨rfl, rfl, rfl, by decide +kernel, rfl, by decide +kernel, by decide +kernel⟩
abbrev s_law_likes : Stmt := topS 34
abbrev N_law_likes : List Str := ["pool", "curve", "points", "at", "others", "longer", "gaps", "inner", "moved", "k"]
theorem sc_law_likes : FnScope N_law_likes ["pool", "curve", "points"] (defScope s_law_likes) := ⟨rfl, rfl, rfl, by decide +kernel, rfl, by decide +kernel, by decide +kernel⟩
abbrev s_law_makers : Stmt := topS 35
abbrev N_law_makers : List Str := ["pool", "four", "n", "points", "steps", "same", "flipped", "step", "v"]
theorem sc_law_makers : FnScope N_law_makers ["pool", "four", "n"] (defScope s_law_makers) := ⟨rfl, rfl, rfl, by decide +kernel, rfl, by decide +kernel, by decide +kernel⟩
abbrev s_law : Stmt := topS 36
abbrev N_law : List Str := ["script", "pool", "points", "four", "n", "curve"]
theorem sc_law : FnScope N_law ["script"] (defScope s_law) := ⟨rfl, rfl, rfl, by decide +kernel, rfl, by decide +kernel, by decide +kernel⟩
def initS_BadValue : Stmt := match topS 4 with
  | .ClassDef _ _ _ b _ _ _ _ _ _ _ => b.getD 0 (.Pass ⟨0, 0, 0, 0⟩)
  | s => s
structure Txt (P : Program) (w : World) (K : PySem.W.Frag) (mg : Str → Option Value) where
  f_are_points : Addr
  d_are_points : FuncData
  F_are_points : Fun K "are_points" "are_points" s_are_points f_are_points d_are_points
  m_are_points : mg "are_points" = some (.ref f_are_points)
  b_are_points : Binds K d_are_points ["points"] []
  f_heights : Addr
  d_heights : FuncData
  F_heights : Fun K "_heights" "_heights" s_heights f_heights d_heights
  m_heights : mg "_heights" = some (.ref f_heights)
  b_heights : Binds K d_heights ["points"] []
  f_law_draws : Addr
  d_law_draws : FuncData
  F_law_draws : Fun K "_law_draws" "_law_draws" s_law_draws f_law_draws d_law_draws
  m_law_draws : mg "_law_draws" = some (.ref f_law_draws)
  b_law_draws : Binds K d_law_draws ["script", "at", "count"] []
  f_law_take : Addr
  d_law_take : FuncData
  F_law_take : Fun K "_law_take" "_law_take" s_law_take f_law_take d_law_take
  m_law_take : mg "_law_take" = some (.ref f_law_take)
  b_law_take : Binds K d_law_take ["pool", "many"] []
  f_law_whole : Addr
  d_law_whole : FuncData
  F_law_whole : Fun K "_law_whole" "_law_whole" s_law_whole f_law_whole d_law_whole
  m_law_whole : mg "_law_whole" = some (.ref f_law_whole)
  b_law_whole : Binds K d_law_whole ["got"] []
  f_Curve_call : Addr
  d_Curve_call : FuncData
  F_Curve_call : Fun K "__call__" "Curve.__call__" s_Curve_call f_Curve_call d_Curve_call
  b_Curve_call : Binds K d_Curve_call ["self", "v"] []
  f_law_pool : Addr
  d_law_pool : FuncData
  F_law_pool : Fun K "_law_pool" "_law_pool" s_law_pool f_law_pool d_law_pool
  m_law_pool : mg "_law_pool" = some (.ref f_law_pool)
  b_law_pool : Binds K d_law_pool ["script", "cells", "count"] []
  f_law_pick : Addr
  d_law_pick : FuncData
  F_law_pick : Fun K "_law_pick" "_law_pick" s_law_pick f_law_pick d_law_pick
  m_law_pick : mg "_law_pick" = some (.ref f_law_pick)
  b_law_pick : Binds K d_law_pick ["pool", "rows"] []
  f_law_line : Addr
  d_law_line : FuncData
  F_law_line : Fun K "_law_line" "_law_line" s_law_line f_law_line d_law_line
  m_law_line : mg "_law_line" = some (.ref f_law_line)
  b_law_line : Binds K d_law_line ["curve", "points"] []
  f_law_rises : Addr
  d_law_rises : FuncData
  F_law_rises : Fun K "_law_rises" "_law_rises" s_law_rises f_law_rises d_law_rises
  m_law_rises : mg "_law_rises" = some (.ref f_law_rises)
  b_law_rises : Binds K d_law_rises ["curve", "points"] []
  f_law_value : Addr
  d_law_value : FuncData
  F_law_value : Fun K "_law_value" "_law_value" s_law_value f_law_value d_law_value
  m_law_value : mg "_law_value" = some (.ref f_law_value)
  b_law_value : Binds K d_law_value ["pool"] []
  f_law_faulty : Addr
  d_law_faulty : FuncData
  F_law_faulty : Fun K "_law_faulty" "_law_faulty" s_law_faulty f_law_faulty d_law_faulty
  m_law_faulty : mg "_law_faulty" = some (.ref f_law_faulty)
  b_law_faulty : Binds K d_law_faulty ["pool", "points"] []
  f_law_off : Addr
  d_law_off : FuncData
  F_law_off : Fun K "_law_off" "_law_off" s_law_off f_law_off d_law_off
  m_law_off : mg "_law_off" = some (.ref f_law_off)
  b_law_off : Binds K d_law_off ["pool", "four"] []
  f_Curve_init : Addr
  d_Curve_init : FuncData
  F_Curve_init : Fun K "__init__" "Curve.__init__" s_Curve_init f_Curve_init d_Curve_init
  b_Curve_init : Binds K d_Curve_init ["self", "points"] []
  f_law_same : Addr
  d_law_same : FuncData
  F_law_same : Fun K "_law_same" "_law_same" s_law_same f_law_same d_law_same
  m_law_same : mg "_law_same" = some (.ref f_law_same)
  b_law_same : Binds K d_law_same ["got", "due"] []
  f_law_points : Addr
  d_law_points : FuncData
  F_law_points : Fun K "_law_points" "_law_points" s_law_points f_law_points d_law_points
  m_law_points : mg "_law_points" = some (.ref f_law_points)
  b_law_points : Binds K d_law_points ["pool"] []
  f_law_levels : Addr
  d_law_levels : FuncData
  F_law_levels : Fun K "_law_levels" "_law_levels" s_law_levels f_law_levels d_law_levels
  m_law_levels : mg "_law_levels" = some (.ref f_law_levels)
  b_law_levels : Binds K d_law_levels ["pool"] []
  f_law_is : Addr
  d_law_is : FuncData
  F_law_is : Fun K "_law_is" "_law_is" s_law_is f_law_is d_law_is
  m_law_is : mg "_law_is" = some (.ref f_law_is)
  b_law_is : Binds K d_law_is ["curve", "points"] []
  f_Curve_eq : Addr
  d_Curve_eq : FuncData
  F_Curve_eq : Fun K "__eq__" "Curve.__eq__" s_Curve_eq f_Curve_eq d_Curve_eq
  b_Curve_eq : Binds K d_Curve_eq ["self", "other"] []
  f_Curve_identity : Addr
  d_Curve_identity : FuncData
  F_Curve_identity : Fun K "identity" "Curve.identity" s_Curve_identity f_Curve_identity d_Curve_identity
  b_Curve_identity : Binds K d_Curve_identity [] []
  f_Curve_inverted : Addr
  d_Curve_inverted : FuncData
  F_Curve_inverted : Fun K "inverted" "Curve.inverted" s_Curve_inverted f_Curve_inverted d_Curve_inverted
  b_Curve_inverted : Binds K d_Curve_inverted [] []
  f_Curve_levels : Addr
  d_Curve_levels : FuncData
  F_Curve_levels : Fun K "levels" "Curve.levels" s_Curve_levels f_Curve_levels d_Curve_levels
  b_Curve_levels : Binds K d_Curve_levels ["black", "white", "low", "high"] []
  f_Curve_threshold : Addr
  d_Curve_threshold : FuncData
  F_Curve_threshold : Fun K "threshold" "Curve.threshold" s_Curve_threshold f_Curve_threshold d_Curve_threshold
  b_Curve_threshold : Binds K d_Curve_threshold ["n"] []
  f_law_refused : Addr
  d_law_refused : FuncData
  F_law_refused : Fun K "_law_refused" "_law_refused" s_law_refused f_law_refused d_law_refused
  m_law_refused : mg "_law_refused" = some (.ref f_law_refused)
  b_law_refused : Binds K d_law_refused ["way", "row"] []
  f_law_likes : Addr
  d_law_likes : FuncData
  F_law_likes : Fun K "_law_likes" "_law_likes" s_law_likes f_law_likes d_law_likes
  m_law_likes : mg "_law_likes" = some (.ref f_law_likes)
  b_law_likes : Binds K d_law_likes ["pool", "curve", "points"] []
  f_law_makers : Addr
  d_law_makers : FuncData
  F_law_makers : Fun K "_law_makers" "_law_makers" s_law_makers f_law_makers d_law_makers
  m_law_makers : mg "_law_makers" = some (.ref f_law_makers)
  b_law_makers : Binds K d_law_makers ["pool", "four", "n"] []
  f_law : Addr
  d_law : FuncData
  F_law : Fun K "law" "law" s_law f_law d_law
  m_law : mg "law" = some (.ref f_law)
  b_law : Binds K d_law ["script"] []
  z_ValueError : mg "ValueError" = none
  z_abs : mg "abs" = none
  z_all : mg "all" = none
  z_any : mg "any" = none
  z_bool : mg "bool" = none
  z_int : mg "int" = none
  z_isinstance : mg "isinstance" = none
  z_len : mg "len" = none
  z_list : mg "list" = none
  z_min : mg "min" = none
  z_range : mg "range" = none
  z_reversed : mg "reversed" = none
  z_sorted : mg "sorted" = none
  z_tuple : mg "tuple" = none
  z_zip : mg "zip" = none
  C_Curve : Addr
  nC_Curve : PySem.W.nsIn K mainGlobals "Curve" = some (some (.ref C_Curve))
  gC_Curve : mg "Curve" = some (.ref C_Curve)
  cl_Curve : Cls K C_Curve
  cf_Curve_heights : ClsF K "Curve" "_heights"
  co_Curve : StX.CallO K C_Curve f_Curve_call
  C_BadValue : Addr
  nC_BadValue : PySem.W.nsIn K mainGlobals "BadValue" = some (some (.ref C_BadValue))
  gC_BadValue : mg "BadValue" = some (.ref C_BadValue)
  O_BadValue : OexC K C_BadValue
  I_BadValue : Addr
  DI_BadValue : FuncData
  iI_BadValue : PySem.W.findIn K (.ref C_BadValue) "__init__" = some (some (.ref I_BadValue))
  tI_BadValue : PySem.W.typeIn K (.ref I_BadValue) = some (.type "function")
  FI_BadValue : Fun K "__init__" "BadValue.__init__" initS_BadValue I_BadValue DI_BadValue
  bI_BadValue : Binds K DI_BadValue ["self", "field"] []
  no_BadValue : PySem.W.findIn K (.ref C_BadValue) "field" = some none
  cf_Curve_points : ClsF K "Curve" "points"
  is_Curve : IsiC K "Curve" C_Curve
  mk_Curve : Mk K C_Curve f_Curve_init
  C_EaselError : Addr
  nC_EaselError : PySem.W.nsIn K mainGlobals "EaselError" = some (some (.ref C_EaselError))
  gC_EaselError : mg "EaselError" = some (.ref C_EaselError)
  em_BadValue_EaselError : PySem.W.exmOne K (.ref C_BadValue) (.ref C_EaselError) = some true
  p_Curve_levels : Addr
  sc_Curve_levels : StatC K C_Curve (.type "type") "levels" p_Curve_levels f_Curve_levels
  p_Curve_threshold : Addr
  sc_Curve_threshold : StatC K C_Curve (.type "type") "threshold" p_Curve_threshold f_Curve_threshold
  X_BadValue : ExcC K C_BadValue
  C_NoLayer : Addr
  nC_NoLayer : PySem.W.nsIn K mainGlobals "NoLayer" = some (some (.ref C_NoLayer))
  gC_NoLayer : mg "NoLayer" = some (.ref C_NoLayer)
  C_BadPlace : Addr
  nC_BadPlace : PySem.W.nsIn K mainGlobals "BadPlace" = some (some (.ref C_BadPlace))
  gC_BadPlace : mg "BadPlace" = some (.ref C_BadPlace)
  C_NoChange : Addr
  nC_NoChange : PySem.W.nsIn K mainGlobals "NoChange" = some (some (.ref C_NoChange))
  gC_NoChange : mg "NoChange" = some (.ref C_NoChange)
  C_Taken : Addr
  nC_Taken : PySem.W.nsIn K mainGlobals "Taken" = some (some (.ref C_Taken))
  gC_Taken : mg "Taken" = some (.ref C_Taken)
  C_TooLarge : Addr
  nC_TooLarge : PySem.W.nsIn K mainGlobals "TooLarge" = some (some (.ref C_TooLarge))
  gC_TooLarge : mg "TooLarge" = some (.ref C_TooLarge)
  C_Singular : Addr
  nC_Singular : PySem.W.nsIn K mainGlobals "Singular" = some (some (.ref C_Singular))
  gC_Singular : mg "Singular" = some (.ref C_Singular)
  C_EndlessRegion : Addr
  nC_EndlessRegion : PySem.W.nsIn K mainGlobals "EndlessRegion" = some (some (.ref C_EndlessRegion))
  gC_EndlessRegion : mg "EndlessRegion" = some (.ref C_EndlessRegion)
  ks_BadValue_NoLayer_BadPlace_NoChange_Taken_TooLarge_Singular_EndlessRegion : PySem.W.kitAny K (.ref C_BadValue) ([C_NoLayer, C_BadPlace, C_NoChange, C_Taken, C_TooLarge, C_Singular, C_EndlessRegion].map Value.ref) = some false
  C_HistoryError : Addr
  nC_HistoryError : PySem.W.nsIn K mainGlobals "HistoryError" = some (some (.ref C_HistoryError))
  gC_HistoryError : mg "HistoryError" = some (.ref C_HistoryError)
  C_LineError : Addr
  nC_LineError : PySem.W.nsIn K mainGlobals "LineError" = some (some (.ref C_LineError))
  gC_LineError : mg "LineError" = some (.ref C_LineError)
  C_FileError : Addr
  nC_FileError : PySem.W.nsIn K mainGlobals "FileError" = some (some (.ref C_FileError))
  gC_FileError : mg "FileError" = some (.ref C_FileError)
  ks_BadValue_HistoryError_LineError_FileError : PySem.W.kitAny K (.ref C_BadValue) ([C_HistoryError, C_LineError, C_FileError].map Value.ref) = some false
  ki_BadValue_BadValue : PySem.W.kitOne K (.ref C_BadValue) (.ref C_BadValue) = some true
  C_DeedError : Addr
  nC_DeedError : PySem.W.nsIn K mainGlobals "DeedError" = some (some (.ref C_DeedError))
  gC_DeedError : mg "DeedError" = some (.ref C_DeedError)
  ki_BadValue_DeedError : PySem.W.kitOne K (.ref C_BadValue) (.ref C_DeedError) = some true
  ki_BadValue_ValueError : PySem.W.kitOne K (.ref C_BadValue) (.type "ValueError") = some true
  xf_BadValue_field : XfC K C_BadValue ∧ PySem.W.findIn K (.ref C_BadValue) "field" = some none
  oe_Curve : PySem.W.findIn K (.ref C_Curve) "__eq__" = some (some (.ref f_Curve_eq)) ∧ PySem.W.isFn K (.ref f_Curve_eq) = true
  p_Curve_identity : Addr
  sc_Curve_identity : StatC K C_Curve (.type "type") "identity" p_Curve_identity f_Curve_identity
  p_Curve_inverted : Addr
  sc_Curve_inverted : StatC K C_Curve (.type "type") "inverted" p_Curve_inverted f_Curve_inverted
def absI (x : Int) : Int := if x < 0 then -x else x
theorem absI_nn (x : Int) : 0 ≤ absI x := by unfold absI; split <;> omega
theorem cx_no (P : Program) (w : World) (H : Hp) (s : Shared) (e : Value) (s' : Shared) (h : L2.CX P w [] H s (fun _ _ _ => False) e s') : False := by
  obtain ⟨_, _, _, _, _, _, _, _, _, _, _, _, z⟩ := h; exact z
theorem hu64 {k : Nat} {A : Around} (h : Room k A) : A.units + 64 < cLine := by have := h.un; omega
theorem ok_none {P : Program} {w : World} {K : PySem.W.Frag} {mg : Str → Option Value} {base : Heap} {CX : CXT} {k n : Nat} {f : Addr} {fd : FuncData} {ps : List Str} (hl : ps.length = n) : FnOk P w K mg base CX k f fd ps (SpP K n fun _ => none) where
  len := fun vs H Q E h => h.1.trans hl.symm
  run := fun _ _ _ _ _ _ _ _ _ _ _ _ _ h => by obtain ⟨_, _, _, _, _, h⟩ := h; exact h.elim
theorem rep_ints_c {K : PySem.W.Frag} {F : Hp} {a : Addr} {od : Option Addr} {sl : Array (Option Value)} {n : Nat} {its : Array Value} (vs : List Int) (lc : K.lookup a = some ⟨.type "tuple", od, .seq its n, sl⟩) (hs : its.size ≤ sizeLine) (hv : Vals (vs.map V.int) its.toList) : RepD K F (.ref a) (.tup (vs.map D.int)) := .tup (.inr ⟨_, its, n, lc, rfl, rfl, hs, hv⟩) (RepL.of_ints vs)
theorem repL_strs {K : PySem.W.Frag} {F : Hp} : ∀ vs : List Str, RepL K F (vs.map V.str) (vs.map D.str)
  | [] => .nil
  | _ :: r => .cons (.str _) (repL_strs r)
theorem rep_strs_c {K : PySem.W.Frag} {F : Hp} {a : Addr} {od : Option Addr} {sl : Array (Option Value)} {n : Nat} {its : Array Value} (vs : List Str) (lc : K.lookup a = some ⟨.type "tuple", od, .seq its n, sl⟩) (hs : its.size ≤ sizeLine) (hv : Vals (vs.map V.str) its.toList) : RepD K F (.ref a) (.tup (vs.map D.str)) := .tup (.inr ⟨_, its, n, lc, rfl, rfl, hs, hv⟩) (repL_strs vs)
theorem for_step {i : Nat} {body : MoS} {d : D} {r : List D} {ε ε' : List Ent} (h : body (ε.set i (.dat d)) = some (.nx ε')) : forGo (gdName i) body (d :: r) ε = forGo (gdName i) body r ε' := by
  show (match body (ε.set i (.dat d)) with | some (.nx e1) => forGo (gdName i) body r e1 | some (.ct e1) => forGo (gdName i) body r e1 | some (.bk e1) => some (.nx e1) | q => q) = _
  rw [h]
theorem for_ret {i : Nat} {body : MoS} {d v : D} {r : List D} {ε ε' : List Ent} (h : body (ε.set i (.dat d)) = some (.rt v ε')) : forGo (gdName i) body (d :: r) ε = some (.rt v ε') := by
  show (match body (ε.set i (.dat d)) with | some (.nx e1) => forGo (gdName i) body r e1 | some (.ct e1) => forGo (gdName i) body r e1 | some (.bk e1) => some (.nx e1) | q => q) = _
  rw [h]
theorem rangeD_ints (n : Nat) : rangeD 0 n = ((List.range n).map fun k : Nat => (k : Int)).map D.int := by
  unfold rangeD
  rw [List.map_map]
  apply List.map_congr_left
  intro k _
  show D.int (0 + (k : Int)) = D.int (k : Int)
  rw [Int.zero_add]
theorem rangeD_len (lo : Int) (n : Nat) : (rangeD lo n).length = n := by unfold rangeD; rw [List.length_map, List.length_range]
theorem seq_nx {m m2 : MoS} {ε ε' : List Ent} (h : m ε = some (.nx ε')) : mSeq m m2 ε = m2 ε' := by unfold mSeq; rw [h]
theorem rng_nat (n : Nat) (h : n ≤ 1000000) : rng1 [.int (n : Int)] = some (rangeD 0 n) := by
  unfold rng1
  dsimp only
  rw [if_pos (inR_mk (by omega) (by omega))]
  rfl
theorem rng1_run {ε ε' : List Ent} {ds es : List D} {f : Mo (List D)} (h1 : f ε = some (.ok ds ε')) (h : rng1 ds = some es) : (bnd f fun ds => lft (rng1 ds)) ε = some (.ok es ε') := by
  unfold bnd lft
  rw [h1]
  dsimp only
  rw [h]
theorem for_run {fi : Mo (List D)} {t : Tg} {body : MoS} {ε ε' : List Ent} {ds : List D} (h : fi ε = some (.ok ds ε')) : mFor fi t body ε = forGo t body ds ε' := by
  unfold mFor mThen
  rw [h]
theorem runO_go {n : Nat} {g : MoS} {ds rs : List D} {ε ε' : List Ent} (h0 : env0 n ds = ε) (h : g ε = some (.ro rs ε')) : runO n g ds = some rs := by
  unfold runO
  rw [h0, h]
theorem seq_rt {m m2 : MoS} {v : D} {ε ε' : List Ent} (h : m ε = some (.rt v ε')) : mSeq m m2 ε = some (.rt v ε') := by unfold mSeq; rw [h]
theorem runQ_go {n : Nat} {g : MoS} {ps ds qs : List D} {d : D} {ε es : List Ent} (h0 : envQ n ps ds = ε) (h : g ε = some (.rt d (.io qs :: es))) : runQ n g ps ds = some (.ret d, qs) := by
  unfold runQ
  rw [h0, h]
  rfl
theorem scI_BadValue : FnScope ["self", "field"] ["self", "field"] (defScope initS_BadValue) := ⟨rfl, rfl, rfl, by decide +kernel, rfl, by decide +kernel, by decide +kernel⟩
theorem okI_BadValue {P : Program} {w : World} {K : PySem.W.Frag} {mg : Str → Option Value} {base : Heap} (T : Txt P w K mg) : FnOk P w K mg base CX0 1 T.I_BadValue T.DI_BadValue ["self", "field"] (spInit T.C_BadValue "field") := ok_init T.FI_BadValue scI_BadValue rfl rfl T.O_BadValue T.no_BadValue fun cdv A outer s H E => pss_one (ps_ost (pv 0) (pv 1))
section
variable {P : Program} {w : World} {K : PySem.W.Frag} {mg : Str → Option Value} {base : Heap}
def bd_are_points_1 : Mo D := (mOp gNeS (mLenN 1) (pur (.int 2)))
def bd_are_points_2 : Mo (List D) := (mLc [1] (bnd (mVar 0) fun d => lft (tupOf d)) (gdName 1) (pur true) bd_are_points_1)
def bd_are_points_3 : Mo D := (mOp gLe (mOp gIx (mVar 3) (pur (.int 0))) (mOp gIx (mVar 2) (pur (.int 0))))
def bd_are_points_4 : Mo (List D) := (mLc [2, 3] (bnd (mCons (mVar 0) (mCons (mSl gSlT (mVar 0) (bnd (pur (.int 1)) fun d => lft ((asI d).map some)) (pur none)) (pur []))) fun ds => lft (zipD ds)) (gdTup [2, 3]) (pur true) bd_are_points_3)
def bd_are_points_5 : Mo D := (mChain gLe gLe (pur (.int 0)) (mVar 5) (pur (.int 255)))
def bd_are_points_6 : Mo (List D) := (mLc [4, 5] (bnd (mVar 0) fun d => lft (tupOf d)) (gdTup [4, 5]) (pur true) bd_are_points_5)
def g_are_points : MoS := (mSeq (mIfS (mNot (mB (mChain gLe gLe (pur (.int 2)) (mLenN 0) (pur (.int 16))))) (mRet (pur (.bl false))) mNil)
  (mSeq (mIfS (mB (mCall (gOne gAny) (mCons (mFz bd_are_points_2) (pur [])))) (mRet (pur (.bl false))) mNil)
  (mSeq (mIfS (mOr (mB (mOp gNeS (mOp gIx (mOp gIx (mVar 0) (pur (.int 0))) (pur (.int 0))) (pur (.int 0)))) (mB (mOp gNeS (mOp gIx (mOp gIx (mVar 0) (mUn gNeg (pur (.int 1)))) (pur (.int 0))) (pur (.int 255))))) (mRet (pur (.bl false))) mNil)
  (mSeq (mIfS (mB (mCall (gOne gAny) (mCons (mFz bd_are_points_4) (pur [])))) (mRet (pur (.bl false))) mNil)
  (mRet (mCall (gOne gAll) (mCons (mFz bd_are_points_6) (pur []))))))))
def m_are_points : List D → Option Ans := runP 6 g_are_points
theorem ok_are_points (T : Txt P w K mg) : FnOk P w K mg base (CXX P w) 1 T.f_are_points T.d_are_points ["points"] (SpP K 1 m_are_points) := by
  exact fn_P (g := g_are_points) T.F_are_points sc_are_points (fun cdv A outer s H E C hA hr tk => (ss_cons (st_if (te_not (te_chain op_le op_le (vop_I0 fun _ _ _ => .bl _) (vop_I0 fun _ _ _ => .bl _) ev_int (ev_lenN (i := 0) (pe_callB call_len (by rfl) T.z_len PySem.boot_len (pa_cons (pv 0) pa_nil))) ev_int fun _ _ _ p q r => pt_chain op_le op_le p q r)) (ss_one (st_ret ev_bl)) ss_nil)
      (ss_cons (st_if (te_val (ev_cb vc_any (ea_cons (ev_lc (own := [("point", 1)]) rfl sc_are_points.nd (ei_tup (ev_var 0 (pv 0))) (blkOk_by (own := [("point", 1)]) (N := N_are_points) (sc := defScope s_are_points) (by decide +kernel)) (fun _ _ _ _ _ => (pg_name (i := 1) sc_are_points.nd rfl (by first | exact Or.inl rfl | exact Or.inr rfl))) (sg_name (i := 1)) (fun _ _ _ _ _ => pt_nilD) (fun _ _ _ _ _ => (ev_neS (ev_lenN (i := 1) (pe_callB call_len (by rfl) T.z_len PySem.boot_len (pa_cons (pv 1) pa_nil))) ev_int)) (by decide) (by decide)).frz ea_nil) fun _ p => pe_callB (cr_any rfl) (by rfl) T.z_any (by decide +kernel) p)) (ss_one (st_ret ev_bl)) ss_nil)
      (ss_cons (st_if (te_w (tw_or (te_cmp op_ne (nomark _) vop_neS (ev_item (fun _ _ => rfl) (ev_item (fun _ _ => rfl) (ev_var 0 (pv 0)) ev_int) ev_int) ev_int) (tw_or1 (te_cmp op_ne (nomark _) vop_neS (ev_item (fun _ _ => rfl) (ev_item (fun _ _ => rfl) (ev_var 0 (pv 0)) (ev_neg ev_int)) ev_int) ev_int)))) (ss_one (st_ret ev_bl)) ss_nil)
      (ss_cons (st_if (te_val (ev_cb vc_any (ea_cons (ev_lc (own := [("first", 2), ("second", 3)]) rfl sc_are_points.nd (ei_zip (ea_cons (ev_var 0 (pv 0)) (ea_cons (ev_sl sl_tupA vsl_tup (ev_var 0 (pv 0)) (eo_some ev_int) eo_none) ea_nil)) fun _ p => RZ.pi_zipA (by rfl) T.z_zip p) (blkOk_by (own := [("first", 2), ("second", 3)]) (N := N_are_points) (sc := defScope s_are_points) (by decide +kernel)) (fun _ _ _ _ _ => (pg_tup (n := 2) rfl (pgs_cons (pg_name (i := 2) sc_are_points.nd rfl (by first | exact Or.inl rfl | exact Or.inr rfl)) (pgs_cons (pg_name (i := 3) sc_are_points.nd rfl (by first | exact Or.inl rfl | exact Or.inr rfl)) pgs_nil)))) (sg_tup (is := [2, 3]) (by rfl)) (fun _ _ _ _ _ => pt_nilD) (fun _ _ _ _ _ => (ev_le (ev_item (fun _ _ => rfl) (ev_var 3 (pv 3)) ev_int) (ev_item (fun _ _ => rfl) (ev_var 2 (pv 2)) ev_int))) (by decide) (by decide)).frz ea_nil) fun _ p => pe_callB (cr_any rfl) (by rfl) T.z_any (by decide +kernel) p)) (ss_one (st_ret ev_bl)) ss_nil)
      (ss_one (st_ret (ev_cb vc_all (ea_cons (ev_lc (own := [("_", 4), ("y", 5)]) rfl sc_are_points.nd (ei_tup (ev_var 0 (pv 0))) (blkOk_by (own := [("_", 4), ("y", 5)]) (N := N_are_points) (sc := defScope s_are_points) (by decide +kernel)) (fun _ _ _ _ _ => (pg_tup (n := 2) rfl (pgs_cons (pg_name (i := 4) sc_are_points.nd rfl (by first | exact Or.inl rfl | exact Or.inr rfl)) (pgs_cons (pg_name (i := 5) sc_are_points.nd rfl (by first | exact Or.inl rfl | exact Or.inr rfl)) pgs_nil)))) (sg_tup (is := [4, 5]) (by rfl)) (fun _ _ _ _ _ => pt_nilD) (fun _ _ _ _ _ => (ev_chain op_le op_le (vop_I0 fun _ _ _ => .bl _) (vop_I0 fun _ _ _ => .bl _) ev_int (ev_var 5 (pv 5)) ev_int fun _ _ _ p q r => pe_chain op_le op_le p q r)) (by decide) (by decide)).frz ea_nil) fun _ p => pe_callB (cr_all rfl) (by rfl) T.z_all (by decide +kernel) p)))))))) (fun _ _ _ h => h)
def bd_heights_1 : Mo D := (mOp gAdd (mVar 3) (mOp gDiv (mOp gAdd (mOp gMul (mOp gMul (pur (.int 2)) (mOp DL.gSub (mVar 5) (mVar 3))) (mOp DL.gSub (mVar 7) (mVar 2))) (mVar 6)) (mOp gMul (pur (.int 2)) (mVar 6))))
def bd_heights_2 : Mo (List D) := (mLc [7] (bnd (mCons (mOp gAdd (mVar 2) (pur (.int 1))) (mCons (mOp gAdd (mVar 4) (pur (.int 1))) (pur []))) fun ds => lft (rng2 ds)) (gdName 7) (pur true) bd_heights_1)
def bd_heights_3 : MoS := (mSeq (mSet 6 (mOp DL.gSub (mVar 4) (mVar 2)))
  (mExt 1 (mFz bd_heights_2)))
def g_heights : MoS := (mSeq (mSetO 1 (mLstO (mCons (mOp gIx (mOp gIx (mVar 0) (pur (.int 0))) (pur (.int 1))) (pur []))))
  (mSeq (mFor (bnd (mCons (mVar 0) (mCons (mSl gSlT (mVar 0) (bnd (pur (.int 1)) fun d => lft ((asI d).map some)) (pur none)) (pur []))) fun ds => lft (zipD ds)) (gdTwo 2 3 4 5) bd_heights_3)
  (mRet (mCall (gOne gTuple) (mCons (mVar 1) (pur []))))))
def m_heights : List D → Option Ans := runP 8 g_heights
theorem ok_heights (T : Txt P w K mg) : FnOk P w K mg base (CXX P w) 1 T.f_heights T.d_heights ["points"] (SpP K 1 m_heights) := by
  exact fn_P (g := g_heights) T.F_heights sc_heights (fun cdv A outer s H E C hA hr tk => (ss_cons (st_setO (fun _ p => ps_set (i := 1) sc_heights.nd rfl (by first | exact Or.inl rfl | exact Or.inr rfl) p) (eo_lst (ea_cons (ev_item (fun _ _ => rfl) (ev_item (fun _ _ => rfl) (ev_var 0 (pv 0)) ev_int) ev_int) ea_nil)))
      (ss_cons (st_for (ei_zip (ea_cons (ev_var 0 (pv 0)) (ea_cons (ev_sl sl_tupA vsl_tup (ev_var 0 (pv 0)) (eo_some ev_int) eo_none) ea_nil)) fun _ p => RZ.pi_zipA (by rfl) T.z_zip p) (ss_cons (st_set (fun _ p => ps_set (i := 6) sc_heights.nd rfl (by first | exact Or.inl rfl | exact Or.inr rfl) p) (ev_sub (ev_var 4 (pv 4)) (ev_var 2 (pv 2))))
      (ss_one (st_ext (i := 1) (fun _ p => ps_expr (pe_bm PySem.F.plainAttrs_list PySem.F.slot_list_extend PySem.F.type_list_extend mt_extend (pv 1) (pa_cons p pa_nil))) (ev_lc (own := [("v", 7)]) rfl sc_heights.nd (ei_range2 (ea_cons (ev_add (ev_var 2 (pv 2)) ev_int) (ea_cons (ev_add (ev_var 4 (pv 4)) ev_int) ea_nil)) fun _ p => pi_range2 (by rfl) T.z_range p) (blkOk_by (own := [("v", 7)]) (N := N_heights) (sc := defScope s_heights) (by decide +kernel)) (fun _ _ _ _ _ => (pg_name (i := 7) sc_heights.nd rfl (by first | exact Or.inl rfl | exact Or.inr rfl))) (sg_name (i := 7)) (fun _ _ _ _ _ => pt_nilD) (fun _ _ _ _ _ => (ev_add (ev_var 3 (pv 3)) (ev_div (ev_add (ev_mul (ev_mul ev_int (ev_sub (ev_var 5 (pv 5)) (ev_var 3 (pv 3)))) (ev_sub (ev_var 7 (pv 7)) (ev_var 2 (pv 2)))) (ev_var 6 (pv 6))) (ev_mul ev_int (ev_var 6 (pv 6)))))) (by decide) (by decide)).frz))) sg_two fun _ _ p q => ps_for (passes_of rfl) rfl p (pg_tup (n := 2) rfl (pgs_cons (pg_tup (n := 2) rfl (pgs_cons (pg_name (i := 2) sc_heights.nd rfl (by first | exact Or.inl rfl | exact Or.inr rfl)) (pgs_cons (pg_name (i := 3) sc_heights.nd rfl (by first | exact Or.inl rfl | exact Or.inr rfl)) pgs_nil))) (pgs_cons (pg_tup (n := 2) rfl (pgs_cons (pg_name (i := 4) sc_heights.nd rfl (by first | exact Or.inl rfl | exact Or.inr rfl)) (pgs_cons (pg_name (i := 5) sc_heights.nd rfl (by first | exact Or.inl rfl | exact Or.inr rfl)) pgs_nil))) pgs_nil))) q)
      (ss_one (st_ret (ev_cb vc_tuple (ea_cons (ev_var 1 (pv 1)) ea_nil) fun _ p => pe_callTy call_tuple_of (by rfl) T.z_tuple (by decide +kernel) p)))))) (fun _ _ _ h => h)
def bd_law_draws_1 : MoS := (mSeq (mIfS (mB (mOp gEqS (mVar 5) (pur (.int 0)))) (fun ε => some (.bk ε)) mNil)
  (mSeq (mApp 4 (mOp gMod (mCall (gOne gInt) (mCons (mVar 5) (pur []))) (pur (.int 9973))))
  (mSet 5 (mOp gDiv (mVar 5) (pur (.int 9973))))))
def bd_law_draws_2 : MoS := (mSeq (mSet 7 (mOp gMod (mCall (gOne gInt) (mCons (mOp gAdd (mOp gAdd (mOp gMul (mVar 7) (mVar 7)) (mOp gMul (pur (.int 48271)) (mOp gAdd (mVar 6) (pur (.int 1))))) (pur (.int 12345))) (pur []))) (pur (.int 999983))))
  (mApp 4 (mOp gMod (mCall (gOne gInt) (mCons (mOp gAdd (mOp gMod (mCall (gOne gInt) (mCons (mOp gMul (mVar 7) (mVar 7)) (pur []))) (pur (.int 1000003))) (mOp gMul (pur (.int 69621)) (mVar 6))) (pur []))) (pur (.int 9973)))))
def g_law_draws : MoS := (mSeq (mSet 3 (pur (.int 0)))
  (mSeq (mIfS (mB (mOp gLt (mVar 1) (mLenN 0))) (mSet 3 (mCall (gOne gAbs) (mCons (mCall (gOne gInt) (mCons (mOp gIx (mVar 0) (mVar 1)) (pur []))) (pur [])))) mNil)
  (mSeq (mSetO 4 (mLstO (pur [])))
  (mSeq (mSet 5 (mVar 3))
  (mSeq (mIfS (mB (mOp gGe (mVar 3) (mOp gPow (pur (.int 10)) (pur (.int 18))))) (mFor (bnd (mCons (mVar 2) (pur [])) fun ds => lft (rng1 ds)) (gdName 6) bd_law_draws_1) mNil)
  (mSeq (mSet 7 (mOp gAdd (mOp gAdd (mOp gMod (mCall (gOne gInt) (mCons (mVar 3) (pur []))) (pur (.int 1000003))) (mOp gMul (pur (.int 611)) (mVar 1))) (pur (.int 17))))
  (mSeq (mFor (bnd (mCons (mOp DL.gSub (mVar 2) (mLenN 4)) (pur [])) fun ds => lft (rng1 ds)) (gdName 6) bd_law_draws_2)
  (mRet (mVar 4)))))))))
def m_law_draws : List D → Option Ans := runP 8 g_law_draws
theorem ok_law_draws (T : Txt P w K mg) : FnOk P w K mg base (CXX P w) 1 T.f_law_draws T.d_law_draws ["script", "at", "count"] (SpP K 3 m_law_draws) := by
  exact fn_P (g := g_law_draws) T.F_law_draws sc_law_draws (fun cdv A outer s H E C hA hr tk => (ss_cons (st_set (fun _ p => ps_set (i := 3) sc_law_draws.nd rfl (by first | exact Or.inl rfl | exact Or.inr rfl) p) ev_int)
      (ss_cons (st_if (te_cmp op_lt (nomark _) (vop_I0 fun _ _ _ => .bl _) (ev_var 1 (pv 1)) (ev_lenN (i := 0) (pe_callB call_len (by rfl) T.z_len PySem.boot_len (pa_cons (pv 0) pa_nil)))) (ss_one (st_set (fun _ p => ps_set (i := 3) sc_law_draws.nd rfl (by first | exact Or.inl rfl | exact Or.inr rfl) p) (ev_cb vc_abs (ea_cons (ev_cb vc_int (ea_cons (ev_item (fun _ _ => rfl) (ev_var 0 (pv 0)) (ev_var 1 (pv 1))) ea_nil) fun _ p => pe_callTy call_int1 (by rfl) T.z_int (by decide +kernel) p) ea_nil) fun _ p => pe_callB call_abs (by rfl) T.z_abs (by decide +kernel) p))) ss_nil)
      (ss_cons (st_setO (fun _ p => ps_set (i := 4) sc_law_draws.nd rfl (by first | exact Or.inl rfl | exact Or.inr rfl) p) (eo_lst ea_nil))
      (ss_cons (st_set (fun _ p => ps_set (i := 5) sc_law_draws.nd rfl (by first | exact Or.inl rfl | exact Or.inr rfl) p) (ev_var 3 (pv 3)))
      (ss_cons (st_if (te_cmp op_ge (nomark _) (vop_I0 fun _ _ _ => .bl _) (ev_var 3 (pv 3)) (ev_pow ev_int ev_int)) (ss_one (st_for (ei_range1 (ea_cons (ev_var 2 (pv 2)) ea_nil) fun _ p => pi_range1 (by rfl) T.z_range p) (ss_cons (st_if (te_cmp op_eq (nomark _) vop_eqS (ev_var 5 (pv 5)) ev_int) (ss_one st_break) ss_nil)
      (ss_cons (st_app (i := 4) (fun _ p => ps_expr (pe_bm PySem.F.plainAttrs_list PySem.F.slot_list_append PySem.F.type_list_append mt_append (pv 4) (pa_cons p pa_nil))) (ev_mod (ev_cb vc_int (ea_cons (ev_var 5 (pv 5)) ea_nil) fun _ p => pe_callTy call_int1 (by rfl) T.z_int (by decide +kernel) p) ev_int))
      (ss_one (st_set (fun _ p => ps_set (i := 5) sc_law_draws.nd rfl (by first | exact Or.inl rfl | exact Or.inr rfl) p) (ev_div (ev_var 5 (pv 5)) ev_int))))) (sg_name (i := 6)) fun _ _ p q => ps_for (passes_of rfl) rfl p (pg_name (i := 6) sc_law_draws.nd rfl (by first | exact Or.inl rfl | exact Or.inr rfl)) q)) ss_nil)
      (ss_cons (st_set (fun _ p => ps_set (i := 7) sc_law_draws.nd rfl (by first | exact Or.inl rfl | exact Or.inr rfl) p) (ev_add (ev_add (ev_mod (ev_cb vc_int (ea_cons (ev_var 3 (pv 3)) ea_nil) fun _ p => pe_callTy call_int1 (by rfl) T.z_int (by decide +kernel) p) ev_int) (ev_mul ev_int (ev_var 1 (pv 1)))) ev_int))
      (ss_cons (st_for (ei_range1 (ea_cons (ev_sub (ev_var 2 (pv 2)) (ev_lenN (i := 4) (pe_callB call_len (by rfl) T.z_len PySem.boot_len (pa_cons (pv 4) pa_nil)))) ea_nil) fun _ p => pi_range1 (by rfl) T.z_range p) (ss_cons (st_set (fun _ p => ps_set (i := 7) sc_law_draws.nd rfl (by first | exact Or.inl rfl | exact Or.inr rfl) p) (ev_mod (ev_cb vc_int (ea_cons (ev_add (ev_add (ev_mul (ev_var 7 (pv 7)) (ev_var 7 (pv 7))) (ev_mul ev_int (ev_add (ev_var 6 (pv 6)) ev_int))) ev_int) ea_nil) fun _ p => pe_callTy call_int1 (by rfl) T.z_int (by decide +kernel) p) ev_int))
      (ss_one (st_app (i := 4) (fun _ p => ps_expr (pe_bm PySem.F.plainAttrs_list PySem.F.slot_list_append PySem.F.type_list_append mt_append (pv 4) (pa_cons p pa_nil))) (ev_mod (ev_cb vc_int (ea_cons (ev_add (ev_mod (ev_cb vc_int (ea_cons (ev_mul (ev_var 7 (pv 7)) (ev_var 7 (pv 7))) ea_nil) fun _ p => pe_callTy call_int1 (by rfl) T.z_int (by decide +kernel) p) ev_int) (ev_mul ev_int (ev_var 6 (pv 6)))) ea_nil) fun _ p => pe_callTy call_int1 (by rfl) T.z_int (by decide +kernel) p) ev_int)))) (sg_name (i := 6)) fun _ _ p q => ps_for (passes_of rfl) rfl p (pg_name (i := 6) sc_law_draws.nd rfl (by first | exact Or.inl rfl | exact Or.inr rfl)) q)
      (ss_one (st_ret (ev_var 4 (pv 4)))))))))))) (fun _ _ _ h => h)
def dr (sc : D) (a c ce : Int) (rs : List Int) (rest : Int) (k sd : Ent) : List Ent := [.dat sc, .dat (.int a), .dat (.int c), .dat (.int ce), .own (rs.map D.int), .dat (.int rest), k, sd]
theorem dr_one {sc : D} {a c ce : Int} : ∀ (items : List D) (rs : List Int) (rest : Int) (k sd : Ent), 0 ≤ rest → rs.length + items.length ≤ 1000 → (∀ z ∈ rs, 0 ≤ z) →
    ∃ (rs' : List Int) (rest' : Int) (k' : Ent), forGo (gdName 6) bd_law_draws_1 items (dr sc a c ce rs rest k sd) = some (.nx (dr sc a c ce rs' rest' k' sd)) ∧ rs'.length ≤ rs.length + items.length ∧ ∀ z ∈ rs', 0 ≤ z
  | [], rs, rest, k, sd, _, _, hz => ⟨rs, rest, k, rfl, Nat.le_refl _, hz⟩
  | d :: items, rs, rest, k, sd, h0, hl, hz => by
    rw [List.length_cons] at hl
    have e0 : setL (dr sc a c ce rs rest k sd) [6] [d] = dr sc a c ce rs rest (.dat d) sd := rfl
    by_cases h : rest = 0
    · have st : bd_law_draws_1 (dr sc a c ce rs rest (.dat d) sd) = some (.bk (dr sc a c ce rs rest (.dat d) sd)) := by
        subst h
        simp [bd_law_draws_1, dr, runP, runO, runQ, ansOf, outQ, env0, envQ, mSeq, mNil, mRet, mRetO, mRetOwn, mRetN, mSet, mSetO, mAsg, mIfS, mThen, mDrop, mApp, mPut, mFor, forGo, mAug, mFn, mFnO, mFnQ, bnd, pur, lft, mCons, mVar, mOp, mUn, mTup, mLst, mLstO, mB, asB, mNot, mAnd, mOr, mAndV, mOrV, mNotV, mIf, mChain, mCall, ansM, mPop, mLenN, mItemN, mSl, mSlO, mCatO, mListO, mListRev, mFz, mLc, lcGo, wipeE, backE, gdName, gdTup, setL, Ent.get, Ent.put, gLen, gOne, gTwo, gI, gAdd, DL.gSub, gMul, gDiv, gMod, gPow, gLt, gLe, gGt, gGe, gNeg, gEqS, gNeS, gIsN, gInt, gAbs, gMin2, gMax2, gStr, gTuple, gList, gIx, seqOf, lstOf, tupOf, asI, rng1, rng2, gSlL, gSlT, gCatS, gCatL, gCatT, tyName, mTruth, gTruth, mDct, intKeys, gKd, gUpper, gdLst, mNewB, mDGet, mDPut, dkAt, keyD, runB, envB, outB, mMake, mFld, mFldN, mFldPut, insAt, partsOf, putS, mMeth, mCallO, OB.frz, zipD, gdTwo, boolsOf, gAny, gAll, mExt, mKeys, keyAsD]
      refine ⟨rs, rest, .dat d, ?_, by omega, hz⟩
      show (match bd_law_draws_1 (setL (dr sc a c ce rs rest k sd) [6] [d]) with | some (.nx ε') => forGo (gdName 6) bd_law_draws_1 items ε' | some (.ct ε') => forGo (gdName 6) bd_law_draws_1 items ε' | some (.bk ε') => some (.nx ε') | r => r) = _
      rw [e0, st]
    · have hs : rs.length < 1000000 := by omega
      have st : bd_law_draws_1 (dr sc a c ce rs rest (.dat d) sd) = some (.nx (dr sc a c ce (rs ++ [rest % 9973]) (rest / 9973) (.dat d) sd)) := by
        simp [bd_law_draws_1, dr, h, hs, runP, runO, runQ, ansOf, outQ, env0, envQ, mSeq, mNil, mRet, mRetO, mRetOwn, mRetN, mSet, mSetO, mAsg, mIfS, mThen, mDrop, mApp, mPut, mFor, forGo, mAug, mFn, mFnO, mFnQ, bnd, pur, lft, mCons, mVar, mOp, mUn, mTup, mLst, mLstO, mB, asB, mNot, mAnd, mOr, mAndV, mOrV, mNotV, mIf, mChain, mCall, ansM, mPop, mLenN, mItemN, mSl, mSlO, mCatO, mListO, mListRev, mFz, mLc, lcGo, wipeE, backE, gdName, gdTup, setL, Ent.get, Ent.put, gLen, gOne, gTwo, gI, gAdd, DL.gSub, gMul, gDiv, gMod, gPow, gLt, gLe, gGt, gGe, gNeg, gEqS, gNeS, gIsN, gInt, gAbs, gMin2, gMax2, gStr, gTuple, gList, gIx, seqOf, lstOf, tupOf, asI, rng1, rng2, gSlL, gSlT, gCatS, gCatL, gCatT, tyName, mTruth, gTruth, mDct, intKeys, gKd, gUpper, gdLst, mNewB, mDGet, mDPut, dkAt, keyD, runB, envB, outB, mMake, mFld, mFldN, mFldPut, insAt, partsOf, putS, mMeth, mCallO, OB.frz, zipD, gdTwo, boolsOf, gAny, gAll, mExt, mKeys, keyAsD]
      obtain ⟨rs', rest', k', e, l, p⟩ := dr_one items (rs ++ [rest % 9973]) (rest / 9973) (.dat d) sd (Int.ediv_nonneg h0 (by decide)) (by rw [List.length_append, List.length_singleton]; omega) (fun z hm => by
        rcases List.mem_append.mp hm with q | q
        · exact hz z q
        · rw [List.mem_singleton.mp q]; exact Int.emod_nonneg _ (by decide))
      rw [List.length_append, List.length_singleton] at l
      refine ⟨rs', rest', k', ?_, by rw [List.length_cons]; omega, p⟩
      show (match bd_law_draws_1 (setL (dr sc a c ce rs rest k sd) [6] [d]) with | some (.nx ε') => forGo (gdName 6) bd_law_draws_1 items ε' | some (.ct ε') => forGo (gdName 6) bd_law_draws_1 items ε' | some (.bk ε') => some (.nx ε') | r => r) = _
      rw [e0, st]
      exact e
theorem log_small {x : Int} (h0 : 0 ≤ x) (h : x < 2 ^ 60) : x.natAbs < 2 ^ 64 := by omega
theorem mulOk_small {i j : Int} (h1 : i.natAbs < 2 ^ 64) (h2 : j.natAbs < 2 ^ 64) : mulOk i j = true := by
  have a : ∀ x : Int, x.natAbs < 2 ^ 64 → x.natAbs.log2 < 64 := fun x h => by
    by_cases h0 : x.natAbs = 0
    · rw [h0]; decide
    · exact (Nat.log2_lt h0).mpr h
  have := a i h1
  have := a j h2
  exact decide_eq_true (by omega)
def seedTo (s k : Int) : Int := (s * s + 48271 * (k + 1) + 12345) % 999983
theorem dr_two {sc : D} {a c ce rest : Int} : ∀ (ks : List Int) (rs : List Int) (s : Int) (k : Ent), (∀ z ∈ ks, 0 ≤ z ∧ z < 1000) → 0 ≤ s → s < 2000000 → rs.length + ks.length ≤ 1000 → (∀ z ∈ rs, 0 ≤ z) →
    ∃ (rs' : List Int) (s' : Int) (k' : Ent), forGo (gdName 6) bd_law_draws_2 (ks.map D.int) (dr sc a c ce rs rest k (.dat (.int s))) = some (.nx (dr sc a c ce rs' rest k' (.dat (.int s')))) ∧ rs'.length = rs.length + ks.length ∧ ∀ z ∈ rs', 0 ≤ z
  | [], rs, s, k, _, _, _, _, hz => ⟨rs, s, k, rfl, rfl, hz⟩
  | x :: ks, rs, s, k, hk, h0, h1, hl, hz => by
    rw [List.length_cons] at hl
    have e0 : setL (dr sc a c ce rs rest k (.dat (.int s))) [6] [.int x] = dr sc a c ce rs rest (.dat (.int x)) (.dat (.int s)) := rfl
    obtain ⟨x0, x1⟩ := hk x List.mem_cons_self
    have s0 : 0 ≤ seedTo s x := Int.emod_nonneg _ (by decide)
    have s1 : seedTo s x < 999983 := Int.emod_lt_of_pos _ (by decide)
    have m1 : mulOk s s = true := mulOk_small (by omega) (by omega)
    have m2 : mulOk 48271 (x + 1) = true := mulOk_small (by decide) (by omega)
    have m3 : mulOk (seedTo s x) (seedTo s x) = true := mulOk_small (by omega) (by omega)
    have m4 : mulOk 69621 x = true := mulOk_small (by decide) (by omega)
    have hs : rs.length < 1000000 := by omega
    have st : bd_law_draws_2 (dr sc a c ce rs rest (.dat (.int x)) (.dat (.int s))) = some (.nx (dr sc a c ce (rs ++ [((seedTo s x * seedTo s x) % 1000003 + 69621 * x) % 9973]) rest (.dat (.int x)) (.dat (.int (seedTo s x))))) := by
      unfold seedTo at m3 ⊢
      simp [bd_law_draws_2, dr, m1, m2, m3, m4, hs, runP, runO, runQ, ansOf, outQ, env0, envQ, mSeq, mNil, mRet, mRetO, mRetOwn, mRetN, mSet, mSetO, mAsg, mIfS, mThen, mDrop, mApp, mPut, mFor, forGo, mAug, mFn, mFnO, mFnQ, bnd, pur, lft, mCons, mVar, mOp, mUn, mTup, mLst, mLstO, mB, asB, mNot, mAnd, mOr, mAndV, mOrV, mNotV, mIf, mChain, mCall, ansM, mPop, mLenN, mItemN, mSl, mSlO, mCatO, mListO, mListRev, mFz, mLc, lcGo, wipeE, backE, gdName, gdTup, setL, Ent.get, Ent.put, gLen, gOne, gTwo, gI, gAdd, DL.gSub, gMul, gDiv, gMod, gPow, gLt, gLe, gGt, gGe, gNeg, gEqS, gNeS, gIsN, gInt, gAbs, gMin2, gMax2, gStr, gTuple, gList, gIx, seqOf, lstOf, tupOf, asI, rng1, rng2, gSlL, gSlT, gCatS, gCatL, gCatT, tyName, mTruth, gTruth, mDct, intKeys, gKd, gUpper, gdLst, mNewB, mDGet, mDPut, dkAt, keyD, runB, envB, outB, mMake, mFld, mFldN, mFldPut, insAt, partsOf, putS, mMeth, mCallO, OB.frz, zipD, gdTwo, boolsOf, gAny, gAll, mExt, mKeys, keyAsD]
    obtain ⟨rs', s', k', e, l, p⟩ := dr_two ks (rs ++ [((seedTo s x * seedTo s x) % 1000003 + 69621 * x) % 9973]) (seedTo s x) (.dat (.int x)) (fun z hm => hk z (List.mem_cons_of_mem _ hm)) s0 (by omega) (by rw [List.length_append, List.length_singleton]; omega) (fun z hm => by
      rcases List.mem_append.mp hm with q | q
      · exact hz z q
      · rw [List.mem_singleton.mp q]; exact Int.emod_nonneg _ (by decide))
    rw [List.length_append, List.length_singleton] at l
    refine ⟨rs', s', k', ?_, by rw [List.length_cons]; omega, p⟩
    show (match bd_law_draws_2 (setL (dr sc a c ce rs rest k (.dat (.int s))) [6] [.int x]) with | some (.nx ε') => forGo (gdName 6) bd_law_draws_2 (ks.map D.int) ε' | some (.ct ε') => forGo (gdName 6) bd_law_draws_2 (ks.map D.int) ε' | some (.bk ε') => some (.nx ε') | r => r) = _
    rw [e0, st]
    exact e
theorem dr_cell (ns : List Int) (at_ count : Nat) : ∃ ce : Int, 0 ≤ ce ∧ (mIfS (mB (mOp gLt (mVar 1) (mLenN 0))) (mSet 3 (mCall (gOne gAbs) (mCons (mCall (gOne gInt) (mCons (mOp gIx (mVar 0) (mVar 1)) (pur []))) (pur [])))) mNil) [.dat (.rdl (ns.map D.int)), .dat (.int at_), .dat (.int count), .dat (.int 0), .un, .un, .un, .un]
      = some (.nx [.dat (.rdl (ns.map D.int)), .dat (.int at_), .dat (.int count), .dat (.int ce), .un, .un, .un, .un]) := by
  by_cases hk : at_ < ns.length
  · have h1 : atI (ns.map D.int) (at_ : Int) = some (.int ns[at_]) := atI_nat (by rw [List.getElem?_map, List.getElem?_eq_getElem hk]; rfl)
    have h2 : (at_ : Int) < (ns.length : Int) := by omega
    refine ⟨absI ns[at_], absI_nn _, ?_⟩
    unfold absI
    simp [runP, runO, runQ, ansOf, outQ, env0, envQ, mSeq, mNil, mRet, mRetO, mRetOwn, mRetN, mSet, mSetO, mAsg, mIfS, mThen, mDrop, mApp, mPut, mFor, forGo, mAug, mFn, mFnO, mFnQ, bnd, pur, lft, mCons, mVar, mOp, mUn, mTup, mLst, mLstO, mB, asB, mNot, mAnd, mOr, mAndV, mOrV, mNotV, mIf, mChain, mCall, ansM, mPop, mLenN, mItemN, mSl, mSlO, mCatO, mListO, mListRev, mFz, mLc, lcGo, wipeE, backE, gdName, gdTup, setL, Ent.get, Ent.put, gLen, gOne, gTwo, gI, gAdd, DL.gSub, gMul, gDiv, gMod, gPow, gLt, gLe, gGt, gGe, gNeg, gEqS, gNeS, gIsN, gInt, gAbs, gMin2, gMax2, gStr, gTuple, gList, gIx, seqOf, lstOf, tupOf, asI, rng1, rng2, gSlL, gSlT, gCatS, gCatL, gCatT, tyName, mTruth, gTruth, mDct, intKeys, gKd, gUpper, gdLst, mNewB, mDGet, mDPut, dkAt, keyD, runB, envB, outB, mMake, mFld, mFldN, mFldPut, insAt, partsOf, putS, mMeth, mCallO, OB.frz, zipD, gdTwo, boolsOf, gAny, gAll, mExt, mKeys, keyAsD, h1, h2, hk]
  · have h2 : ¬ (at_ : Int) < (ns.length : Int) := by omega
    exact ⟨0, Int.le_refl 0, by simp [runP, runO, runQ, ansOf, outQ, env0, envQ, mSeq, mNil, mRet, mRetO, mRetOwn, mRetN, mSet, mSetO, mAsg, mIfS, mThen, mDrop, mApp, mPut, mFor, forGo, mAug, mFn, mFnO, mFnQ, bnd, pur, lft, mCons, mVar, mOp, mUn, mTup, mLst, mLstO, mB, asB, mNot, mAnd, mOr, mAndV, mOrV, mNotV, mIf, mChain, mCall, ansM, mPop, mLenN, mItemN, mSl, mSlO, mCatO, mListO, mListRev, mFz, mLc, lcGo, wipeE, backE, gdName, gdTup, setL, Ent.get, Ent.put, gLen, gOne, gTwo, gI, gAdd, DL.gSub, gMul, gDiv, gMod, gPow, gLt, gLe, gGt, gGe, gNeg, gEqS, gNeS, gIsN, gInt, gAbs, gMin2, gMax2, gStr, gTuple, gList, gIx, seqOf, lstOf, tupOf, asI, rng1, rng2, gSlL, gSlT, gCatS, gCatL, gCatT, tyName, mTruth, gTruth, mDct, intKeys, gKd, gUpper, gdLst, mNewB, mDGet, mDPut, dkAt, keyD, runB, envB, outB, mMake, mFld, mFldN, mFldPut, insAt, partsOf, putS, mMeth, mCallO, OB.frz, zipD, gdTwo, boolsOf, gAny, gAll, mExt, mKeys, keyAsD, h2]⟩
def big18 : Int := 1000000000000000000
theorem pow18 : (mOp gPow (pur (.int 10)) (pur (.int 18))) = (pur (.int big18) : Mo D) := by
  funext ε
  simp [mOp, bnd, pur, gPow, gI, lft, big18]
theorem dr_mid {sc : D} {at_ : Int} {count : Nat} {ce : Int} (hce : 0 ≤ ce) (hc : count ≤ 500) : ∃ (r : List Int) (rest : Int) (k : Ent), r.length ≤ count ∧ (∀ z ∈ r, 0 ≤ z) ∧ (mIfS (mB (mOp gGe (mVar 3) (mOp gPow (pur (.int 10)) (pur (.int 18))))) (mFor (bnd (mCons (mVar 2) (pur [])) fun ds => lft (rng1 ds)) (gdName 6) bd_law_draws_1) mNil) (dr sc at_ count ce [] ce .un .un)
      = some (.nx (dr sc at_ count ce r rest k .un)) := by
  obtain ⟨r1, rest1, k1, e1, l1, p1⟩ := dr_one (sc := sc) (a := at_) (c := count) (ce := ce) (rangeD 0 count) [] ce .un .un hce (by rw [rangeD_len]; simp; omega) (fun z h => by cases h)
  rw [rangeD_len] at l1
  rw [pow18]
  by_cases hb : big18 ≤ ce
  · refine ⟨r1, rest1, k1, by simpa using l1, p1, ?_⟩
    rw [← e1]
    have t1 : (mB (mOp gGe (mVar 3) (pur (.int big18)))) (dr sc at_ count ce [] ce .un .un) = some (.ok true (dr sc at_ count ce [] ce .un .un)) := by
      simp [dr, mB, bnd, mOp, mVar, pur, lft, gGe, gI, asB, hb]
    unfold mIfS mThen
    rw [t1]
    dsimp only
    rw [if_pos rfl]
    refine for_run (ds := rangeD 0 count) (ε' := dr sc at_ count ce [] ce .un .un) ?_
    exact rng1_run (ds := [.int (count : Int)]) rfl (rng_nat count (by omega))
  · refine ⟨[], ce, .un, Nat.zero_le _, (fun z h => by cases h), ?_⟩
    simp [dr, mIfS, mThen, mB, bnd, mOp, mVar, pur, lft, gGe, gI, asB, hb, mNil]
theorem dr_last {sc : D} {at_ : Int} {count : Nat} {ce rest s : Int} {r : List Int} {k : Ent} (hc : count ≤ 500) (hr : r.length ≤ count) (hp : ∀ z ∈ r, 0 ≤ z) (h0 : 0 ≤ s) (h1 : s < 2000000) : ∃ (r2 : List Int) (s2 : Int) (k2 : Ent), r2.length = count ∧ (∀ z ∈ r2, 0 ≤ z) ∧
    (mFor (bnd (mCons (mOp DL.gSub (mVar 2) (mLenN 4)) (pur [])) fun ds => lft (rng1 ds)) (gdName 6) bd_law_draws_2) (dr sc at_ count ce r rest k (.dat (.int s))) = some (.nx (dr sc at_ count ce r2 rest k2 (.dat (.int s2)))) := by
  obtain ⟨r2, s2, k2, e2, l2, p2⟩ := dr_two (sc := sc) (a := at_) (c := count) (ce := ce) (rest := rest) ((List.range (count - r.length)).map fun k : Nat => (k : Int)) r s k (fun z hz => by
    obtain ⟨j, hj, rfl⟩ := List.mem_map.mp hz
    have := List.mem_range.mp hj
    omega) h0 h1 (by rw [List.length_map, List.length_range]; omega) hp
  rw [List.length_map, List.length_range] at l2
  refine ⟨r2, s2, k2, by omega, p2, ?_⟩
  have hcnt : (count : Int) - (r.length : Int) = ((count - r.length : Nat) : Int) := by omega
  rw [← rangeD_ints] at e2
  rw [← e2]
  refine for_run (ds := rangeD 0 (count - r.length)) (ε' := dr sc at_ count ce r rest k (.dat (.int s))) ?_
  have t1 : (mCons (mOp DL.gSub (mVar 2) (mLenN 4)) (pur [])) (dr sc at_ count ce r rest k (.dat (.int s))) = some (.ok [.int ((count - r.length : Nat) : Int)] (dr sc at_ count ce r rest k (.dat (.int s)))) := by
    simp [dr, bnd, mCons, mOp, DL.gSub, gI, mVar, mLenN, lft, pur, hcnt]
  exact rng1_run t1 (rng_nat (count - r.length) (by omega))
theorem dr_seed {sc : D} {at_ : Nat} {c ce rest : Int} {r : List Int} {k : Ent} (ha : at_ ≤ 1000) : (mSet 7 (mOp gAdd (mOp gAdd (mOp gMod (mCall (gOne gInt) (mCons (mVar 3) (pur []))) (pur (.int 1000003))) (mOp gMul (pur (.int 611)) (mVar 1))) (pur (.int 17)))) (dr sc at_ c ce r rest k .un)
    = some (.nx (dr sc at_ c ce r rest k (.dat (.int (ce % 1000003 + 611 * at_ + 17))))) := by
  have m5 : mulOk 611 (at_ : Int) = true := mulOk_small (by decide) (by omega)
  simp [dr, m5, runP, runO, runQ, ansOf, outQ, env0, envQ, mSeq, mNil, mRet, mRetO, mRetOwn, mRetN, mSet, mSetO, mAsg, mIfS, mThen, mDrop, mApp, mPut, mFor, forGo, mAug, mFn, mFnO, mFnQ, bnd, pur, lft, mCons, mVar, mOp, mUn, mTup, mLst, mLstO, mB, asB, mNot, mAnd, mOr, mAndV, mOrV, mNotV, mIf, mChain, mCall, ansM, mPop, mLenN, mItemN, mSl, mSlO, mCatO, mListO, mListRev, mFz, mLc, lcGo, wipeE, backE, gdName, gdTup, setL, Ent.get, Ent.put, gLen, gOne, gTwo, gI, gAdd, DL.gSub, gMul, gDiv, gMod, gPow, gLt, gLe, gGt, gGe, gNeg, gEqS, gNeS, gIsN, gInt, gAbs, gMin2, gMax2, gStr, gTuple, gList, gIx, seqOf, lstOf, tupOf, asI, rng1, rng2, gSlL, gSlT, gCatS, gCatL, gCatT, tyName, mTruth, gTruth, mDct, intKeys, gKd, gUpper, gdLst, mNewB, mDGet, mDPut, dkAt, keyD, runB, envB, outB, mMake, mFld, mFldN, mFldPut, insAt, partsOf, putS, mMeth, mCallO, OB.frz, zipD, gdTwo, boolsOf, gAny, gAll, mExt, mKeys, keyAsD]
theorem r_draws (ns : List Int) (at_ count : Nat) (ha : at_ ≤ 1000) (hc : count ≤ 500) : ∃ rs : List Int, m_law_draws [.rdl (ns.map D.int), .int (at_ : Int), .int (count : Int)] = some (.ret (.lst (rs.map D.int))) ∧ rs.length = count ∧ ∀ z ∈ rs, 0 ≤ z := by
  obtain ⟨ce, hce, ecell⟩ := dr_cell ns at_ count
  obtain ⟨r, rest, k, hr, hp, emid⟩ := dr_mid (sc := .rdl (ns.map D.int)) (at_ := at_) hce hc
  have sd0 : 0 ≤ ce % 1000003 := Int.emod_nonneg _ (by decide)
  have sd1 : ce % 1000003 < 1000003 := Int.emod_lt_of_pos _ (by decide)
  obtain ⟨r2, s2, k2, l2, p2, last⟩ := dr_last (sc := .rdl (ns.map D.int)) (at_ := at_) (ce := ce) (rest := rest) (s := ce % 1000003 + 611 * at_ + 17) (k := k) hc hr hp (by omega) (by omega)
  refine ⟨r2, ?_, l2, p2⟩
  have g0 : g_law_draws [.dat (.rdl (ns.map D.int)), .dat (.int at_), .dat (.int count), .un, .un, .un, .un, .un] = some (.rt (.lst (r2.map D.int)) ((dr (.rdl (ns.map D.int)) at_ count ce r2 rest k2 (.dat (.int s2))).set 4 (.dat (.lst (r2.map D.int))))) := by
    unfold g_law_draws
    refine (seq_nx (ε' := [.dat (.rdl (ns.map D.int)), .dat (.int at_), .dat (.int count), .dat (.int 0), .un, .un, .un, .un]) rfl).trans ?_
    refine (seq_nx ecell).trans ?_
    refine (seq_nx (ε' := [.dat (.rdl (ns.map D.int)), .dat (.int at_), .dat (.int count), .dat (.int ce), .own [], .un, .un, .un]) rfl).trans ?_
    refine (seq_nx (ε' := dr (.rdl (ns.map D.int)) at_ count ce [] ce .un .un) rfl).trans ?_
    refine (seq_nx emid).trans ?_
    refine (seq_nx (dr_seed ha)).trans ?_
    exact (seq_nx last).trans rfl
  show ansOf (g_law_draws _) = _
  exact congrArg ansOf g0
def g_law_take : MoS := (mSeq (mIfS (mB (mOp gEqS (mLenN 0) (pur (.int 0)))) (mRet (pur (.int 0))) mNil)
  (mRet (mOp gMod (mCall (gOne gInt) (mCons (mPop 0) (pur []))) (mVar 1))))
def m_law_take : List D → List D → Option (Ans × List D) := runQ 2 g_law_take
theorem ok_law_take (T : Txt P w K mg) : FnOk P w K mg base (CXX P w) 1 T.f_law_take T.d_law_take ["pool", "many"] (SpQ K 2 m_law_take) := by
  exact fn_Q (g := g_law_take) T.F_law_take sc_law_take (fun cdv A outer s H E C hr tk => (ss_cons (st_if (te_cmp op_eq (nomark _) vop_eqS (ev_lenN (i := 0) (pe_callB call_len (by rfl) T.z_len PySem.boot_len (pa_cons (pv 0) pa_nil))) ev_int) (ss_one (st_ret ev_int)) ss_nil)
      (ss_one (st_ret (ev_mod (ev_cb vc_int (ea_cons (ev_pop (i := 0) (pe_bm0 PySem.F.plainAttrs_list PySem.F.slot_list_pop PySem.F.type_list_pop mt_pop (pv 0))) ea_nil) fun _ p => pe_callTy call_int1 (by rfl) T.z_int (by decide +kernel) p) (ev_var 1 (pv 1))))))) (fun _ _ _ _ h => h)
theorem r_take (ps : List Int) {m : Int} (hm : 0 < m) : ∃ (v : Int) (qs : List Int), m_law_take (ps.map D.int) [.int m] = some (.ret (.int v), qs.map D.int) ∧ 0 ≤ v ∧ v < m := by
  rcases List.eq_nil_or_concat ps with rfl | ⟨qs, x, rfl⟩
  · exact ⟨0, [], by simp [m_law_take, g_law_take, runP, runO, runQ, ansOf, outQ, env0, envQ, mSeq, mNil, mRet, mRetO, mRetOwn, mRetN, mSet, mSetO, mAsg, mIfS, mThen, mDrop, mApp, mPut, mFor, forGo, mAug, mFn, mFnO, mFnQ, bnd, pur, lft, mCons, mVar, mOp, mUn, mTup, mLst, mLstO, mB, asB, mNot, mAnd, mOr, mAndV, mOrV, mNotV, mIf, mChain, mCall, ansM, mPop, mLenN, mItemN, mSl, mSlO, mCatO, mListO, mListRev, mFz, mLc, lcGo, wipeE, backE, gdName, gdTup, setL, Ent.get, Ent.put, gLen, gOne, gTwo, gI, gAdd, DL.gSub, gMul, gDiv, gMod, gPow, gLt, gLe, gGt, gGe, gNeg, gEqS, gNeS, gIsN, gInt, gAbs, gMin2, gMax2, gStr, gTuple, gList, gIx, seqOf, lstOf, tupOf, asI, rng1, rng2, gSlL, gSlT, gCatS, gCatL, gCatT, tyName, mTruth, gTruth, mDct, intKeys, gKd, gUpper, gdLst, mNewB, mDGet, mDPut, dkAt, keyD, runB, envB, outB, mMake, mFld, mFldN, mFldPut, insAt, partsOf, putS, mMeth, mCallO, OB.frz, zipD, gdTwo, boolsOf, gAny, gAll, mExt, mKeys, keyAsD], Int.le_refl 0, hm⟩
  · refine ⟨x % m, qs, ?_, Int.emod_nonneg x (by omega), Int.emod_lt_of_pos x hm⟩
    have h1 : ¬ ((qs.length : Int) + 1 = 0) := by omega
    simp [m_law_take, g_law_take, runP, runO, runQ, ansOf, outQ, env0, envQ, mSeq, mNil, mRet, mRetO, mRetOwn, mRetN, mSet, mSetO, mAsg, mIfS, mThen, mDrop, mApp, mPut, mFor, forGo, mAug, mFn, mFnO, mFnQ, bnd, pur, lft, mCons, mVar, mOp, mUn, mTup, mLst, mLstO, mB, asB, mNot, mAnd, mOr, mAndV, mOrV, mNotV, mIf, mChain, mCall, ansM, mPop, mLenN, mItemN, mSl, mSlO, mCatO, mListO, mListRev, mFz, mLc, lcGo, wipeE, backE, gdName, gdTup, setL, Ent.get, Ent.put, gLen, gOne, gTwo, gI, gAdd, DL.gSub, gMul, gDiv, gMod, gPow, gLt, gLe, gGt, gGe, gNeg, gEqS, gNeS, gIsN, gInt, gAbs, gMin2, gMax2, gStr, gTuple, gList, gIx, seqOf, lstOf, tupOf, asI, rng1, rng2, gSlL, gSlT, gCatS, gCatL, gCatT, tyName, mTruth, gTruth, mDct, intKeys, gKd, gUpper, gdLst, mNewB, mDGet, mDPut, dkAt, keyD, runB, envB, outB, mMake, mFld, mFldN, mFldPut, insAt, partsOf, putS, mMeth, mCallO, OB.frz, zipD, gdTwo, boolsOf, gAny, gAll, mExt, mKeys, keyAsD, h1, hm]
def g_law_whole : MoS := (mRet (mAndV (mCall gIsi (mCons (mVar 0) (mCons (pur (.rf (.ty "int"))) (pur [])))) (mNotV (mCall gIsi (mCons (mVar 0) (mCons (pur (.rf (.ty "bool"))) (pur [])))))))
def m_law_whole : List D → Option Ans := runP 1 g_law_whole
theorem ok_law_whole (T : Txt P w K mg) : FnOk P w K mg base (CXX P w) 1 T.f_law_whole T.d_law_whole ["got"] (SpP K 1 m_law_whole) := by
  exact fn_P (g := g_law_whole) T.F_law_whole sc_law_whole (fun cdv A outer s H E C hA hr tk => (ss_one (st_ret (ev_and (ev_cb vc_isi (ea_cons (ev_var 0 (pv 0)) (ea_cons (ev_c (d := .rf (.ty "int")) (pe_bltn (v := .ty "int") (by rfl) T.z_int (by decide +kernel) rfl) (fun _ _ => .rf _)) ea_nil)) fun _ p => pe_callB call_isi (by rfl) T.z_isinstance (by decide +kernel) p) (ev_one (ev_not (ev_cb vc_isi (ea_cons (ev_var 0 (pv 0)) (ea_cons (ev_c (d := .rf (.ty "bool")) (pe_bltn (v := .ty "bool") (by rfl) T.z_bool (by decide +kernel) rfl) (fun _ _ => .rf _)) ea_nil)) fun _ p => pe_callB call_isi (by rfl) T.z_isinstance (by decide +kernel) p))))))) (fun _ _ _ h => h)
def g_Curve_call : MoS := (mRet (mOp gIx (mFldN 0 "Curve" "_heights") (mVar 1)))
def m_Curve_call : List D → Option Ans := runP 2 g_Curve_call
theorem ok_Curve_call (T : Txt P w K mg) : FnOk P w K mg base (CXX P w) 1 T.f_Curve_call T.d_Curve_call ["self", "v"] (SpP K 2 m_Curve_call) := by
  exact fn_P (g := g_Curve_call) T.F_Curve_call sc_Curve_call (fun cdv A outer s H E C hA hr tk => (ss_one (st_ret (ev_item (fun _ _ => rfl) (ev_fldN (i := 0) (c := "Curve") T.cf_Curve_heights (pe_fld (pv 0) rfl)) (ev_var 1 (pv 1)))))) (fun _ _ _ h => h)
def bd_law_pool_1 : MoS := (mSetO 3 (mCatO (mVar 3) (mFn 3 m_law_draws (mCons (mVar 0) (mCons (mVar 4) (mCons (mVar 2) (pur [])))))))
def g_law_pool : MoS := (mSeq (mSetO 3 (mLstO (pur [])))
  (mSeq (mFor (bnd (mCons (mVar 1) (pur [])) fun ds => lft (rng1 ds)) (gdName 4) bd_law_pool_1)
  (mRetO (mListRev (mVar 3)))))
def m_law_pool : List D → Option (List D) := runO 5 g_law_pool
theorem ok_law_pool (T : Txt P w K mg) : FnOk P w K mg base (CXX P w) 2 T.f_law_pool T.d_law_pool ["script", "cells", "count"] (SpO K 3 m_law_pool) := by
  exact fn_O (g := g_law_pool) T.F_law_pool sc_law_pool (fun cdv A outer s H E C hA hr tk => (ss_cons (st_setO (fun _ p => ps_set (i := 3) sc_law_pool.nd rfl (by first | exact Or.inl rfl | exact Or.inr rfl) p) (eo_lst ea_nil))
      (ss_cons (st_for (ei_range1 (ea_cons (ev_var 1 (pv 1)) ea_nil) fun _ p => pi_range1 (by rfl) T.z_range p) (ss_one (st_setO (fun _ p => ps_set (i := 3) sc_law_pool.nd rfl (by first | exact Or.inl rfl | exact Or.inr rfl) p) (eo_cat (ev_var 3 (pv 3)) (cl_fn (ok_law_draws T) tk hr (by rfl) T.m_law_draws T.F_law_draws.kp T.b_law_draws (ea_cons (ev_var 0 (pv 0)) (ea_cons (ev_var 4 (pv 4)) (ea_cons (ev_var 2 (pv 2)) ea_nil))))))) (sg_name (i := 4)) fun _ _ p q => ps_for (passes_of rfl) rfl p (pg_name (i := 4) sc_law_pool.nd rfl (by first | exact Or.inl rfl | exact Or.inr rfl)) q)
      (ss_one (st_retO (eo_listrev (ev_var 3 (pv 3)) fun _ p => DLR.pe_listrev rfl (by rfl) T.z_list (by rfl) T.z_reversed p)))))) (fun _ _ _ h => runO_of h)
def po (ns : List Int) (c : Int) (count : Nat) (rs : List Int) (k : Ent) : List Ent := [.dat (.rdl (ns.map D.int)), .dat (.int c), .dat (.int count), .own (rs.map D.int), k]
theorem po_set {ns : List Int} {c : Int} {count : Nat} {rs : List Int} {k : Ent} {d : D} : (po ns c count rs k).set 4 (.dat d) = po ns c count rs (.dat d) := rfl
theorem po_step {ns : List Int} {c : Int} {count : Nat} {rs ds : List Int} {j : Nat} (h1 : m_law_draws [.rdl (ns.map D.int), .int (j : Int), .int (count : Int)] = some (.ret (.lst (ds.map D.int)))) (hs : rs.length + ds.length ≤ 1000000) :
    bd_law_pool_1 (po ns c count rs (.dat (.int (j : Int)))) = some (.nx (po ns c count (rs ++ ds) (.dat (.int (j : Int))))) := by
  simp [bd_law_pool_1, po, mSetO, mThen, mCatO, bnd, mVar, mFn, mCons, pur, ansM, h1, lft, hs]
theorem po_one {ns : List Int} {c : Int} {count : Nat} (hc : count ≤ 500) : ∀ (ks : List Nat) (rs : List Int) (k : Ent), (∀ z ∈ ks, z ≤ 1000) → rs.length + ks.length * count ≤ 900000 → (∀ z ∈ rs, 0 ≤ z) →
    ∃ (rs' : List Int) (k' : Ent), forGo (gdName 4) bd_law_pool_1 (ks.map fun j : Nat => D.int (j : Int)) (po ns c count rs k) = some (.nx (po ns c count rs' k')) ∧ rs'.length = rs.length + ks.length * count ∧ ∀ z ∈ rs', 0 ≤ z
  | [], rs, k, _, _, hz => ⟨rs, k, rfl, by simp, hz⟩
  | j :: ks, rs, k, hk, hl, hz => by
    have hl2 : rs.length + count + ks.length * count ≤ 900000 := by
      rw [List.length_cons, Nat.add_mul, Nat.one_mul] at hl
      omega
    obtain ⟨ds, h1, h2, h3⟩ := r_draws ns j count (hk j List.mem_cons_self) hc
    have hs : rs.length + ds.length ≤ 1000000 := by omega
    obtain ⟨rs', k', e, l, p⟩ := po_one (ns := ns) (c := c) hc ks (rs ++ ds) (.dat (.int (j : Int))) (fun z hm => hk z (List.mem_cons_of_mem _ hm)) (by rw [List.length_append]; omega) (fun z hm => by
      rcases List.mem_append.mp hm with q | q
      · exact hz z q
      · exact h3 z q)
    rw [List.length_append] at l
    refine ⟨rs', k', ?_, by rw [List.length_cons, Nat.add_mul, Nat.one_mul]; omega, p⟩
    rw [List.map_cons]
    exact (for_step (i := 4) (ε := po ns c count rs k) (ε' := po ns c count (rs ++ ds) (.dat (.int (j : Int)))) (po_step (c := c) h1 hs)).trans e
theorem po_rng (cells : Nat) : rangeD 0 cells = (List.range cells).map fun j : Nat => D.int (j : Int) := by
  rw [rangeD_ints, List.map_map]; rfl
theorem po_first {ns : List Int} {cells count : Nat} : (mSetO 3 (mLstO (pur []))) [.dat (.rdl (ns.map D.int)), .dat (.int cells), .dat (.int count), .un, .un] = some (.nx (po ns cells count [] .un)) := rfl
theorem po_ret {ns : List Int} {c : Int} {count : Nat} {rs : List Int} {k : Ent} : (mRetO (mListRev (mVar 3))) (po ns c count rs k) = some (.ro (rs.reverse.map D.int) ((po ns c count rs k).set 3 (.dat (.lst (rs.map D.int))))) := by
  simp [po, mRetO, mListRev, mThen, bnd, mVar, lft, lstOf, List.map_reverse]
theorem po_arg {ns : List Int} {c : Int} {count : Nat} {rs : List Int} {k : Ent} : (mCons (mVar 1) (pur [])) (po ns c count rs k) = some (.ok [.int c] (po ns c count rs k)) := rfl
theorem po_env {ns : List Int} {c : Int} {count : Nat} : env0 5 [.rdl (ns.map D.int), .int c, .int (count : Int)] = [.dat (.rdl (ns.map D.int)), .dat (.int c), .dat (.int count), .un, .un] := rfl
theorem po_for {ns : List Int} {cells count : Nat} (h1 : cells ≤ 100) (h2 : count ≤ 500) : ∃ (rs : List Int) (k' : Ent), (mFor (bnd (mCons (mVar 1) (pur [])) fun ds => lft (rng1 ds)) (gdName 4) bd_law_pool_1) (po ns cells count [] .un) = some (.nx (po ns cells count rs k')) ∧ rs.length = cells * count ∧ ∀ z ∈ rs, 0 ≤ z := by
  have hcc : cells * count ≤ 100 * 500 := Nat.mul_le_mul h1 h2
  obtain ⟨rs, k', e, l, p⟩ := po_one (ns := ns) (c := cells) h2 (List.range cells) [] .un (fun z hz => by have := List.mem_range.mp hz; omega) (by rw [List.length_range, List.length_nil]; omega) (fun z h => by cases h)
  rw [List.length_range, List.length_nil] at l
  rw [← po_rng] at e
  exact ⟨rs, k', (for_run (rng1_run po_arg (rng_nat cells (by omega)))).trans e, by omega, p⟩
theorem r_pool (ns : List Int) (cells count : Nat) (h1 : cells ≤ 100) (h2 : count ≤ 500) : ∃ ps : List Int, m_law_pool [.rdl (ns.map D.int), .int (cells : Int), .int (count : Int)] = some (ps.map D.int) ∧ ps.length = cells * count ∧ ∀ z ∈ ps, 0 ≤ z := by
  obtain ⟨rs, k', e, l, p⟩ := po_for (ns := ns) h1 h2
  refine ⟨rs.reverse, ?_, by rw [List.length_reverse]; exact l, fun z hz => p z (List.mem_reverse.mp hz)⟩
  exact runO_go po_env ((seq_nx po_first).trans ((seq_nx e).trans po_ret))
def g_law_pick : MoS := (mRet (mOp gIx (mVar 1) (mFnQ 0 2 m_law_take (mCons (mLenN 1) (pur [])))))
def m_law_pick : List D → List D → Option (Ans × List D) := runQ 2 g_law_pick
theorem ok_law_pick (T : Txt P w K mg) : FnOk P w K mg base (CXX P w) 2 T.f_law_pick T.d_law_pick ["pool", "rows"] (SpQ K 2 m_law_pick) := by
  exact fn_Q (g := g_law_pick) T.F_law_pick sc_law_pick (fun cdv A outer s H E C hr tk => (ss_one (st_ret (ev_item (fun _ _ => rfl) (ev_var 1 (pv 1)) (cl_fnQ (ok_law_take T) tk hr (by rfl) T.m_law_take T.F_law_take.kp T.b_law_take (pv 0) (ea_cons (ev_lenN (i := 1) (pe_callB call_len (by rfl) T.z_len PySem.boot_len (pa_cons (pv 1) pa_nil))) ea_nil)))))) (fun _ _ _ _ h => h)
theorem r_pick (ps : List Int) {d : D} {ds : List D} (hd : seqOf d = some ds) (h0 : 0 < ds.length) (hs : ∀ z, d ≠ .str z) : ∃ (j : Nat) (qs : List Int) (e : D), m_law_pick (ps.map D.int) [d] = some (.ret e, qs.map D.int) ∧ j < ds.length ∧ ds[j]? = some e := by
  obtain ⟨v, qs, h1, h2, h3⟩ := r_take ps (m := (ds.length : Int)) (by omega)
  have hj : v.toNat < ds.length := by omega
  have hv : atI ds v = some ds[v.toNat] := by
    have := atI_nat (xs := ds) (j := v.toNat) (List.getElem?_eq_getElem hj)
    rwa [show ((v.toNat : Nat) : Int) = v by omega] at this
  refine ⟨v.toNat, qs, ds[v.toNat], ?_, hj, List.getElem?_eq_getElem hj⟩
  cases d with
  | tup es => cases hd; simp [m_law_pick, g_law_pick, runP, runO, runQ, ansOf, outQ, env0, envQ, mSeq, mNil, mRet, mRetO, mRetOwn, mRetN, mSet, mSetO, mAsg, mIfS, mThen, mDrop, mApp, mPut, mFor, forGo, mAug, mFn, mFnO, mFnQ, bnd, pur, lft, mCons, mVar, mOp, mUn, mTup, mLst, mLstO, mB, asB, mNot, mAnd, mOr, mAndV, mOrV, mNotV, mIf, mChain, mCall, ansM, mPop, mLenN, mItemN, mSl, mSlO, mCatO, mListO, mListRev, mFz, mLc, lcGo, wipeE, backE, gdName, gdTup, setL, Ent.get, Ent.put, gLen, gOne, gTwo, gI, gAdd, DL.gSub, gMul, gDiv, gMod, gPow, gLt, gLe, gGt, gGe, gNeg, gEqS, gNeS, gIsN, gInt, gAbs, gMin2, gMax2, gStr, gTuple, gList, gIx, seqOf, lstOf, tupOf, asI, rng1, rng2, gSlL, gSlT, gCatS, gCatL, gCatT, tyName, mTruth, gTruth, mDct, intKeys, gKd, gUpper, gdLst, mNewB, mDGet, mDPut, dkAt, keyD, runB, envB, outB, mMake, mFld, mFldN, mFldPut, insAt, partsOf, putS, mMeth, mCallO, OB.frz, zipD, gdTwo, boolsOf, gAny, gAll, mExt, mKeys, keyAsD, h1, hv]
  | lst es => cases hd; simp [m_law_pick, g_law_pick, runP, runO, runQ, ansOf, outQ, env0, envQ, mSeq, mNil, mRet, mRetO, mRetOwn, mRetN, mSet, mSetO, mAsg, mIfS, mThen, mDrop, mApp, mPut, mFor, forGo, mAug, mFn, mFnO, mFnQ, bnd, pur, lft, mCons, mVar, mOp, mUn, mTup, mLst, mLstO, mB, asB, mNot, mAnd, mOr, mAndV, mOrV, mNotV, mIf, mChain, mCall, ansM, mPop, mLenN, mItemN, mSl, mSlO, mCatO, mListO, mListRev, mFz, mLc, lcGo, wipeE, backE, gdName, gdTup, setL, Ent.get, Ent.put, gLen, gOne, gTwo, gI, gAdd, DL.gSub, gMul, gDiv, gMod, gPow, gLt, gLe, gGt, gGe, gNeg, gEqS, gNeS, gIsN, gInt, gAbs, gMin2, gMax2, gStr, gTuple, gList, gIx, seqOf, lstOf, tupOf, asI, rng1, rng2, gSlL, gSlT, gCatS, gCatL, gCatT, tyName, mTruth, gTruth, mDct, intKeys, gKd, gUpper, gdLst, mNewB, mDGet, mDPut, dkAt, keyD, runB, envB, outB, mMake, mFld, mFldN, mFldPut, insAt, partsOf, putS, mMeth, mCallO, OB.frz, zipD, gdTwo, boolsOf, gAny, gAll, mExt, mKeys, keyAsD, h1, hv]
  | rdl es => cases hd; simp [m_law_pick, g_law_pick, runP, runO, runQ, ansOf, outQ, env0, envQ, mSeq, mNil, mRet, mRetO, mRetOwn, mRetN, mSet, mSetO, mAsg, mIfS, mThen, mDrop, mApp, mPut, mFor, forGo, mAug, mFn, mFnO, mFnQ, bnd, pur, lft, mCons, mVar, mOp, mUn, mTup, mLst, mLstO, mB, asB, mNot, mAnd, mOr, mAndV, mOrV, mNotV, mIf, mChain, mCall, ansM, mPop, mLenN, mItemN, mSl, mSlO, mCatO, mListO, mListRev, mFz, mLc, lcGo, wipeE, backE, gdName, gdTup, setL, Ent.get, Ent.put, gLen, gOne, gTwo, gI, gAdd, DL.gSub, gMul, gDiv, gMod, gPow, gLt, gLe, gGt, gGe, gNeg, gEqS, gNeS, gIsN, gInt, gAbs, gMin2, gMax2, gStr, gTuple, gList, gIx, seqOf, lstOf, tupOf, asI, rng1, rng2, gSlL, gSlT, gCatS, gCatL, gCatT, tyName, mTruth, gTruth, mDct, intKeys, gKd, gUpper, gdLst, mNewB, mDGet, mDPut, dkAt, keyD, runB, envB, outB, mMake, mFld, mFldN, mFldPut, insAt, partsOf, putS, mMeth, mCallO, OB.frz, zipD, gdTwo, boolsOf, gAny, gAll, mExt, mKeys, keyAsD, h1, hv]
  | _ => cases hd
def bd_law_line_1 : MoS := (mSeq (mSet 8 (mCallO "Curve" 2 m_Curve_call (mVar 0) (mCons (mVar 7) (pur []))))
  (mSeq (mIfS (mNot (mB (mFn 1 m_law_whole (mCons (mVar 8) (pur []))))) (mRet (pur (.bl false))) mNil)
  (mSeq (mSet 9 (mOp gAdd (mOp gMul (mOp gMul (pur (.int 2)) (mVar 6)) (mOp DL.gSub (mVar 7) (mVar 3))) (mVar 5)))
  (mIfS (mOr (mB (mOp gLt (mVar 9) (mOp gMul (mOp gMul (pur (.int 2)) (mVar 5)) (mOp DL.gSub (mVar 8) (mVar 4))))) (mB (mOp gGe (mVar 9) (mOp gMul (mOp gMul (pur (.int 2)) (mVar 5)) (mOp gAdd (mOp DL.gSub (mVar 8) (mVar 4)) (pur (.int 1))))))) (mRet (pur (.bl false))) mNil))))
def bd_law_line_2 : MoS := (mSeq (mSet 3 (mOp gIx (mOp gIx (mVar 1) (mVar 2)) (pur (.int 0))))
  (mSeq (mSet 4 (mOp gIx (mOp gIx (mVar 1) (mVar 2)) (pur (.int 1))))
  (mSeq (mSet 5 (mOp DL.gSub (mOp gIx (mOp gIx (mVar 1) (mOp gAdd (mVar 2) (pur (.int 1)))) (pur (.int 0))) (mVar 3)))
  (mSeq (mSet 6 (mOp DL.gSub (mOp gIx (mOp gIx (mVar 1) (mOp gAdd (mVar 2) (pur (.int 1)))) (pur (.int 1))) (mVar 4)))
  (mFor (bnd (mCons (mVar 3) (mCons (mOp gAdd (mOp gAdd (mVar 3) (mVar 5)) (pur (.int 1))) (pur []))) fun ds => lft (rng2 ds)) (gdName 7) bd_law_line_1)))))
def g_law_line : MoS := (mSeq (mFor (bnd (mCons (mOp DL.gSub (mLenN 1) (pur (.int 1))) (pur [])) fun ds => lft (rng1 ds)) (gdName 2) bd_law_line_2)
  (mRet (pur (.bl true))))
def m_law_line : List D → Option Ans := runP 10 g_law_line
theorem ok_law_line (T : Txt P w K mg) : FnOk P w K mg base (CXX P w) 2 T.f_law_line T.d_law_line ["curve", "points"] (SpP K 2 m_law_line) := by
  exact fn_P (g := g_law_line) T.F_law_line sc_law_line (fun cdv A outer s H E C hA hr tk => (ss_cons (st_for (ei_range1 (ea_cons (ev_sub (ev_lenN (i := 1) (pe_callB call_len (by rfl) T.z_len PySem.boot_len (pa_cons (pv 1) pa_nil))) ev_int) ea_nil) fun _ p => pi_range1 (by rfl) T.z_range p) (ss_cons (st_set (fun _ p => ps_set (i := 3) sc_law_line.nd rfl (by first | exact Or.inl rfl | exact Or.inr rfl) p) (ev_item (fun _ _ => rfl) (ev_item (fun _ _ => rfl) (ev_var 1 (pv 1)) (ev_var 2 (pv 2))) ev_int))
      (ss_cons (st_set (fun _ p => ps_set (i := 4) sc_law_line.nd rfl (by first | exact Or.inl rfl | exact Or.inr rfl) p) (ev_item (fun _ _ => rfl) (ev_item (fun _ _ => rfl) (ev_var 1 (pv 1)) (ev_var 2 (pv 2))) ev_int))
      (ss_cons (st_set (fun _ p => ps_set (i := 5) sc_law_line.nd rfl (by first | exact Or.inl rfl | exact Or.inr rfl) p) (ev_sub (ev_item (fun _ _ => rfl) (ev_item (fun _ _ => rfl) (ev_var 1 (pv 1)) (ev_add (ev_var 2 (pv 2)) ev_int)) ev_int) (ev_var 3 (pv 3))))
      (ss_cons (st_set (fun _ p => ps_set (i := 6) sc_law_line.nd rfl (by first | exact Or.inl rfl | exact Or.inr rfl) p) (ev_sub (ev_item (fun _ _ => rfl) (ev_item (fun _ _ => rfl) (ev_var 1 (pv 1)) (ev_add (ev_var 2 (pv 2)) ev_int)) ev_int) (ev_var 4 (pv 4))))
      (ss_one (st_for (ei_range2 (ea_cons (ev_var 3 (pv 3)) (ea_cons (ev_add (ev_add (ev_var 3 (pv 3)) (ev_var 5 (pv 5))) ev_int) ea_nil)) fun _ p => pi_range2 (by rfl) T.z_range p) (ss_cons (st_set (fun _ p => ps_set (i := 8) sc_law_line.nd rfl (by first | exact Or.inl rfl | exact Or.inr rfl) p) (ev_callO T.nC_Curve T.co_Curve (ok_Curve_call T) T.b_Curve_call tk hr (ev_var 0 (pv 0)) (ea_cons (ev_var 7 (pv 7)) ea_nil)))
      (ss_cons (st_if (te_not (te_val (cl_fn (ok_law_whole T) tk hr (by rfl) T.m_law_whole T.F_law_whole.kp T.b_law_whole (ea_cons (ev_var 8 (pv 8)) ea_nil)))) (ss_one (st_ret ev_bl)) ss_nil)
      (ss_cons (st_set (fun _ p => ps_set (i := 9) sc_law_line.nd rfl (by first | exact Or.inl rfl | exact Or.inr rfl) p) (ev_add (ev_mul (ev_mul ev_int (ev_var 6 (pv 6))) (ev_sub (ev_var 7 (pv 7)) (ev_var 3 (pv 3)))) (ev_var 5 (pv 5))))
      (ss_one (st_if (te_w (tw_or (te_cmp op_lt (nomark _) (vop_I0 fun _ _ _ => .bl _) (ev_var 9 (pv 9)) (ev_mul (ev_mul ev_int (ev_var 5 (pv 5))) (ev_sub (ev_var 8 (pv 8)) (ev_var 4 (pv 4))))) (tw_or1 (te_cmp op_ge (nomark _) (vop_I0 fun _ _ _ => .bl _) (ev_var 9 (pv 9)) (ev_mul (ev_mul ev_int (ev_var 5 (pv 5))) (ev_add (ev_sub (ev_var 8 (pv 8)) (ev_var 4 (pv 4))) ev_int)))))) (ss_one (st_ret ev_bl)) ss_nil))))) (sg_name (i := 7)) fun _ _ p q => ps_for (passes_of rfl) rfl p (pg_name (i := 7) sc_law_line.nd rfl (by first | exact Or.inl rfl | exact Or.inr rfl)) q)))))) (sg_name (i := 2)) fun _ _ p q => ps_for (passes_of rfl) rfl p (pg_name (i := 2) sc_law_line.nd rfl (by first | exact Or.inl rfl | exact Or.inr rfl)) q)
      (ss_one (st_ret ev_bl)))) (fun _ _ _ h => h)
def bd_law_rises_1 : MoS := (mIfS (mB (mOp gLt (mOp gIx (mOp gIx (mVar 1) (mOp gAdd (mVar 2) (pur (.int 1)))) (pur (.int 1))) (mOp gIx (mOp gIx (mVar 1) (mVar 2)) (pur (.int 1))))) (mRet (pur (.bl true))) mNil)
def bd_law_rises_2 : MoS := (mSeq (mIfS (mB (mOp gLt (mCallO "Curve" 2 m_Curve_call (mVar 0) (mCons (mVar 4) (pur []))) (mVar 3))) (mRet (pur (.bl false))) mNil)
  (mSet 3 (mCallO "Curve" 2 m_Curve_call (mVar 0) (mCons (mVar 4) (pur [])))))
def g_law_rises : MoS := (mSeq (mFor (bnd (mCons (mOp DL.gSub (mLenN 1) (pur (.int 1))) (pur [])) fun ds => lft (rng1 ds)) (gdName 2) bd_law_rises_1)
  (mSeq (mSet 3 (pur (.int 0)))
  (mSeq (mFor (bnd (mCons (pur (.int 256)) (pur [])) fun ds => lft (rng1 ds)) (gdName 4) bd_law_rises_2)
  (mRet (pur (.bl true))))))
def m_law_rises : List D → Option Ans := runP 5 g_law_rises
theorem ok_law_rises (T : Txt P w K mg) : FnOk P w K mg base (CXX P w) 2 T.f_law_rises T.d_law_rises ["curve", "points"] (SpP K 2 m_law_rises) := by
  exact fn_P (g := g_law_rises) T.F_law_rises sc_law_rises (fun cdv A outer s H E C hA hr tk => (ss_cons (st_for (ei_range1 (ea_cons (ev_sub (ev_lenN (i := 1) (pe_callB call_len (by rfl) T.z_len PySem.boot_len (pa_cons (pv 1) pa_nil))) ev_int) ea_nil) fun _ p => pi_range1 (by rfl) T.z_range p) (ss_one (st_if (te_cmp op_lt (nomark _) (vop_I0 fun _ _ _ => .bl _) (ev_item (fun _ _ => rfl) (ev_item (fun _ _ => rfl) (ev_var 1 (pv 1)) (ev_add (ev_var 2 (pv 2)) ev_int)) ev_int) (ev_item (fun _ _ => rfl) (ev_item (fun _ _ => rfl) (ev_var 1 (pv 1)) (ev_var 2 (pv 2))) ev_int)) (ss_one (st_ret ev_bl)) ss_nil)) (sg_name (i := 2)) fun _ _ p q => ps_for (passes_of rfl) rfl p (pg_name (i := 2) sc_law_rises.nd rfl (by first | exact Or.inl rfl | exact Or.inr rfl)) q)
      (ss_cons (st_set (fun _ p => ps_set (i := 3) sc_law_rises.nd rfl (by first | exact Or.inl rfl | exact Or.inr rfl) p) ev_int)
      (ss_cons (st_for (ei_range1 (ea_cons ev_int ea_nil) fun _ p => pi_range1 (by rfl) T.z_range p) (ss_cons (st_if (te_cmp op_lt (nomark _) (vop_I0 fun _ _ _ => .bl _) (ev_callO T.nC_Curve T.co_Curve (ok_Curve_call T) T.b_Curve_call tk hr (ev_var 0 (pv 0)) (ea_cons (ev_var 4 (pv 4)) ea_nil)) (ev_var 3 (pv 3))) (ss_one (st_ret ev_bl)) ss_nil)
      (ss_one (st_set (fun _ p => ps_set (i := 3) sc_law_rises.nd rfl (by first | exact Or.inl rfl | exact Or.inr rfl) p) (ev_callO T.nC_Curve T.co_Curve (ok_Curve_call T) T.b_Curve_call tk hr (ev_var 0 (pv 0)) (ea_cons (ev_var 4 (pv 4)) ea_nil))))) (sg_name (i := 4)) fun _ _ p q => ps_for (passes_of rfl) rfl p (pg_name (i := 4) sc_law_rises.nd rfl (by first | exact Or.inl rfl | exact Or.inr rfl)) q)
      (ss_one (st_ret ev_bl)))))) (fun _ _ _ h => h)
def g_law_value : MoS := (mSeq (mIfS (mB (mOp gEqS (mFnQ 0 2 m_law_take (mCons (pur (.int 2)) (pur []))) (pur (.int 0)))) (mRet (mFnQ 0 2 m_law_pick (mCons (mTup (mCons (pur (.int 255)) (mCons (pur (.int 128)) (mCons (pur (.int 1)) (mCons (pur (.int 0)) (pur [])))))) (pur [])))) mNil)
  (mRet (mFnQ 0 2 m_law_take (mCons (pur (.int 256)) (pur [])))))
def m_law_value : List D → List D → Option (Ans × List D) := runQ 1 g_law_value
theorem ok_law_value (T : Txt P w K mg) : FnOk P w K mg base (CXX P w) 3 T.f_law_value T.d_law_value ["pool"] (SpQ K 1 m_law_value) := by
  exact fn_Q (g := g_law_value) T.F_law_value sc_law_value (fun cdv A outer s H E C hr tk => (ss_cons (st_if (te_cmp op_eq (nomark _) vop_eqS (cl_fnQ (ok_law_take T) tk (hr.mono (by decide)) (by rfl) T.m_law_take T.F_law_take.kp T.b_law_take (pv 0) (ea_cons ev_int ea_nil)) ev_int) (ss_one (st_ret (cl_fnQ (ok_law_pick T) tk hr (by rfl) T.m_law_pick T.F_law_pick.kp T.b_law_pick (pv 0) (ea_cons (ev_tup (ea_cons ev_int (ea_cons ev_int (ea_cons ev_int (ea_cons ev_int ea_nil))))) ea_nil)))) ss_nil)
      (ss_one (st_ret (cl_fnQ (ok_law_take T) tk (hr.mono (by decide)) (by rfl) T.m_law_take T.F_law_take.kp T.b_law_take (pv 0) (ea_cons ev_int ea_nil)))))) (fun _ _ _ _ h => h)
def bd_law_faulty_1 : Mo D := (mTup (mCons (mOp gMul (pur (.int 16)) (mVar 6)) (mCons (mOp gIx (mItemN 2 (pur (.int 0))) (pur (.int 1))) (pur []))))
def bd_law_faulty_2 : Mo (List D) := (mLc [6] (bnd (mCons (pur (.int 16)) (pur [])) fun ds => lft (rng1 ds)) (gdName 6) (pur true) bd_law_faulty_1)
def g_law_faulty : MoS := (mSeq (mSetO 2 (mListO (mCons (mVar 1) (pur []))))
  (mSeq (mSet 3 (mFnQ 0 2 m_law_take (mCons (pur (.int 9)) (pur []))))
  (mSeq (mSet 4 (mFnQ 0 2 m_law_take (mCons (mOp DL.gSub (mLenN 2) (pur (.int 1))) (pur []))))
  (mSeq (mIfS (mB (mOp gEqS (mVar 3) (pur (.int 0)))) (mRet (mCall (gOne gTuple) (mCons (mSl gSlL (mVar 2) (pur none) (bnd (mFnQ 0 2 m_law_take (mCons (pur (.int 2)) (pur []))) fun d => lft ((asI d).map some))) (pur [])))) mNil)
  (mSeq (mIfS (mB (mOp gEqS (mVar 3) (pur (.int 1)))) (mRet (mCall (gOne gTuple) (mCons (mOp gCatL (mFz bd_law_faulty_2) (mLst (mCons (mTup (mCons (pur (.int 255)) (mCons (mOp gIx (mItemN 2 (mUn gNeg (pur (.int 1)))) (pur (.int 1))) (pur [])))) (pur [])))) (pur [])))) mNil)
  (mSeq (mIfS (mB (mOp gEqS (mVar 3) (pur (.int 2)))) (mPut 2 (mTup (mCons (mFnQ 0 2 m_law_pick (mCons (mTup (mCons (pur (.int 1)) (mCons (mUn gNeg (pur (.int 1))) (mCons (mOp gPow (pur (.int 10)) (pur (.int 20))) (pur []))))) (pur []))) (mCons (mOp gIx (mItemN 2 (pur (.int 0))) (pur (.int 1))) (pur [])))) (pur (.int 0))) mNil)
  (mSeq (mIfS (mB (mOp gEqS (mVar 3) (pur (.int 3)))) (mPut 2 (mTup (mCons (mFnQ 0 2 m_law_pick (mCons (mTup (mCons (pur (.int 254)) (mCons (pur (.int 256)) (mCons (mOp gPow (pur (.int 10)) (pur (.int 20))) (pur []))))) (pur []))) (mCons (mOp gIx (mItemN 2 (mUn gNeg (pur (.int 1)))) (pur (.int 1))) (pur [])))) (mOp DL.gSub (mLenN 2) (pur (.int 1)))) mNil)
  (mSeq (mIfS (mB (mOp gEqS (mVar 3) (pur (.int 4)))) (mPut 2 (mTup (mCons (mOp gIx (mItemN 2 (mVar 4)) (pur (.int 0))) (mCons (mFnQ 0 2 m_law_pick (mCons (mTup (mCons (pur (.int 256)) (mCons (mUn gNeg (pur (.int 1))) (mCons (mOp gPow (pur (.int 10)) (pur (.int 20))) (mCons (mUn gNeg (mOp gPow (pur (.int 10)) (pur (.int 20)))) (pur [])))))) (pur []))) (pur [])))) (mVar 4)) mNil)
  (mSeq (mIfS (mB (mOp gEqS (mVar 3) (pur (.int 5)))) (mPut 2 (mTup (mCons (mOp gIx (mItemN 2 (mOp gAdd (mVar 4) (pur (.int 1)))) (pur (.int 0))) (mCons (mFnQ 0 2 m_law_pick (mCons (mTup (mCons (pur (.int 256)) (mCons (mUn gNeg (pur (.int 1))) (pur [])))) (pur []))) (pur [])))) (mOp gAdd (mVar 4) (pur (.int 1)))) mNil)
  (mSeq (mIfS (mB (mOp gEqS (mVar 3) (pur (.int 6)))) (mIns 2 (mCons (mVar 4) (mCons (mItemN 2 (mVar 4)) (pur [])))) mNil)
  (mSeq (mIfS (mB (mOp gEqS (mVar 3) (pur (.int 7)))) (mSeq (mSet 5 (mItemN 2 (mVar 4)))
  (mSeq (mPut 2 (mItemN 2 (mOp gAdd (mVar 4) (pur (.int 1)))) (mVar 4))
  (mPut 2 (mVar 5) (mOp gAdd (mVar 4) (pur (.int 1)))))) mNil)
  (mSeq (mIfS (mB (mOp gEqS (mVar 3) (pur (.int 8)))) (mPut 2 (mFnQ 0 2 m_law_pick (mCons (mTup (mCons (mTup (mCons (mOp gIx (mItemN 2 (mVar 4)) (pur (.int 0))) (pur []))) (mCons (mTup (mCons (mOp gIx (mItemN 2 (mVar 4)) (pur (.int 0))) (mCons (mOp gIx (mItemN 2 (mVar 4)) (pur (.int 1))) (mCons (pur (.int 0)) (pur []))))) (mCons (mTup (pur [])) (pur []))))) (pur []))) (mVar 4)) mNil)
  (mRet (mCall (gOne gTuple) (mCons (mVar 2) (pur []))))))))))))))))
def m_law_faulty : List D → List D → Option (Ans × List D) := runQ 7 g_law_faulty
theorem ok_law_faulty (T : Txt P w K mg) : FnOk P w K mg base (CXX P w) 3 T.f_law_faulty T.d_law_faulty ["pool", "points"] (SpQ K 2 m_law_faulty) := by
  exact fn_Q (g := g_law_faulty) T.F_law_faulty sc_law_faulty (fun cdv A outer s H E C hr tk => (ss_cons (st_setO (fun _ p => ps_set (i := 2) sc_law_faulty.nd rfl (by first | exact Or.inl rfl | exact Or.inr rfl) p) (eo_list (ea_cons (ev_var 1 (pv 1)) ea_nil) fun _ p => pe_callTy call_list_of (by rfl) T.z_list (by decide +kernel) p))
      (ss_cons (st_set (fun _ p => ps_set (i := 3) sc_law_faulty.nd rfl (by first | exact Or.inl rfl | exact Or.inr rfl) p) (cl_fnQ (ok_law_take T) tk (hr.mono (by decide)) (by rfl) T.m_law_take T.F_law_take.kp T.b_law_take (pv 0) (ea_cons ev_int ea_nil)))
      (ss_cons (st_set (fun _ p => ps_set (i := 4) sc_law_faulty.nd rfl (by first | exact Or.inl rfl | exact Or.inr rfl) p) (cl_fnQ (ok_law_take T) tk (hr.mono (by decide)) (by rfl) T.m_law_take T.F_law_take.kp T.b_law_take (pv 0) (ea_cons (ev_sub (ev_lenN (i := 2) (pe_callB call_len (by rfl) T.z_len PySem.boot_len (pa_cons (pv 2) pa_nil))) ev_int) ea_nil)))
      (ss_cons (st_if (te_cmp op_eq (nomark _) vop_eqS (ev_var 3 (pv 3)) ev_int) (ss_one (st_ret (ev_cb vc_tuple (ea_cons (ev_sl sl_list vsl_list (ev_var 2 (pv 2)) eo_none (eo_some (cl_fnQ (ok_law_take T) tk (hr.mono (by decide)) (by rfl) T.m_law_take T.F_law_take.kp T.b_law_take (pv 0) (ea_cons ev_int ea_nil)))) ea_nil) fun _ p => pe_callTy call_tuple_of (by rfl) T.z_tuple (by decide +kernel) p))) ss_nil)
      (ss_cons (st_if (te_cmp op_eq (nomark _) vop_eqS (ev_var 3 (pv 3)) ev_int) (ss_one (st_ret (ev_cb vc_tuple (ea_cons (ev_op op_cat vop_catL (ev_lc (own := [("k", 6)]) rfl sc_law_faulty.nd (ei_range1 (ea_cons ev_int ea_nil) fun _ p => pi_range1 (by rfl) T.z_range p) (blkOk_by (own := [("k", 6)]) (N := N_law_faulty) (sc := defScope s_law_faulty) (by decide +kernel)) (fun _ _ _ _ _ => (pg_name (i := 6) sc_law_faulty.nd rfl (by first | exact Or.inl rfl | exact Or.inr rfl))) (sg_name (i := 6)) (fun _ _ _ _ _ => pt_nilD) (fun _ _ _ _ _ => (ev_tup (ea_cons (ev_mul ev_int (ev_var 6 (pv 6))) (ea_cons (ev_item (fun _ _ => rfl) (ev_itemN 2 (fun _ _ => rfl) ev_int fun _ _ q => pe_ix ix_seq (pv 2) q (fun _ _ => rfl)) ev_int) ea_nil)))) (by decide) (by decide)).frz (ev_lst (ea_cons (ev_tup (ea_cons ev_int (ea_cons (ev_item (fun _ _ => rfl) (ev_itemN 2 (fun _ _ => rfl) (ev_neg ev_int) fun _ _ q => pe_ix ix_seq (pv 2) q (fun _ _ => rfl)) ev_int) ea_nil))) ea_nil))) ea_nil) fun _ p => pe_callTy call_tuple_of (by rfl) T.z_tuple (by decide +kernel) p))) ss_nil)
      (ss_cons (st_if (te_cmp op_eq (nomark _) vop_eqS (ev_var 3 (pv 3)) ev_int) (ss_one (st_put (i := 2) (fun _ _ p q => ps_asg p (pg_sub (pv 2) q set_list)) (ev_tup (ea_cons (cl_fnQ (ok_law_pick T) tk hr (by rfl) T.m_law_pick T.F_law_pick.kp T.b_law_pick (pv 0) (ea_cons (ev_tup (ea_cons ev_int (ea_cons (ev_neg ev_int) (ea_cons (ev_pow ev_int ev_int) ea_nil)))) ea_nil)) (ea_cons (ev_item (fun _ _ => rfl) (ev_itemN 2 (fun _ _ => rfl) ev_int fun _ _ q => pe_ix ix_seq (pv 2) q (fun _ _ => rfl)) ev_int) ea_nil))) ev_int)) ss_nil)
      (ss_cons (st_if (te_cmp op_eq (nomark _) vop_eqS (ev_var 3 (pv 3)) ev_int) (ss_one (st_put (i := 2) (fun _ _ p q => ps_asg p (pg_sub (pv 2) q set_list)) (ev_tup (ea_cons (cl_fnQ (ok_law_pick T) tk hr (by rfl) T.m_law_pick T.F_law_pick.kp T.b_law_pick (pv 0) (ea_cons (ev_tup (ea_cons ev_int (ea_cons ev_int (ea_cons (ev_pow ev_int ev_int) ea_nil)))) ea_nil)) (ea_cons (ev_item (fun _ _ => rfl) (ev_itemN 2 (fun _ _ => rfl) (ev_neg ev_int) fun _ _ q => pe_ix ix_seq (pv 2) q (fun _ _ => rfl)) ev_int) ea_nil))) (ev_sub (ev_lenN (i := 2) (pe_callB call_len (by rfl) T.z_len PySem.boot_len (pa_cons (pv 2) pa_nil))) ev_int))) ss_nil)
      (ss_cons (st_if (te_cmp op_eq (nomark _) vop_eqS (ev_var 3 (pv 3)) ev_int) (ss_one (st_put (i := 2) (fun _ _ p q => ps_asg p (pg_sub (pv 2) q set_list)) (ev_tup (ea_cons (ev_item (fun _ _ => rfl) (ev_itemN 2 (fun _ _ => rfl) (ev_var 4 (pv 4)) fun _ _ q => pe_ix ix_seq (pv 2) q (fun _ _ => rfl)) ev_int) (ea_cons (cl_fnQ (ok_law_pick T) tk hr (by rfl) T.m_law_pick T.F_law_pick.kp T.b_law_pick (pv 0) (ea_cons (ev_tup (ea_cons ev_int (ea_cons (ev_neg ev_int) (ea_cons (ev_pow ev_int ev_int) (ea_cons (ev_neg (ev_pow ev_int ev_int)) ea_nil))))) ea_nil)) ea_nil))) (ev_var 4 (pv 4)))) ss_nil)
      (ss_cons (st_if (te_cmp op_eq (nomark _) vop_eqS (ev_var 3 (pv 3)) ev_int) (ss_one (st_put (i := 2) (fun _ _ p q => ps_asg p (pg_sub (pv 2) q set_list)) (ev_tup (ea_cons (ev_item (fun _ _ => rfl) (ev_itemN 2 (fun _ _ => rfl) (ev_add (ev_var 4 (pv 4)) ev_int) fun _ _ q => pe_ix ix_seq (pv 2) q (fun _ _ => rfl)) ev_int) (ea_cons (cl_fnQ (ok_law_pick T) tk hr (by rfl) T.m_law_pick T.F_law_pick.kp T.b_law_pick (pv 0) (ea_cons (ev_tup (ea_cons ev_int (ea_cons (ev_neg ev_int) ea_nil))) ea_nil)) ea_nil))) (ev_add (ev_var 4 (pv 4)) ev_int))) ss_nil)
      (ss_cons (st_if (te_cmp op_eq (nomark _) vop_eqS (ev_var 3 (pv 3)) ev_int) (ss_one (st_ins (i := 2) (fun _ p => ps_expr (pe_bm PySem.F.plainAttrs_list PySem.F.slot_list_insert PySem.F.type_list_insert mt_ins (pv 2) p)) (ea_cons (ev_var 4 (pv 4)) (ea_cons (ev_itemN 2 (fun _ _ => rfl) (ev_var 4 (pv 4)) fun _ _ q => pe_ix ix_seq (pv 2) q (fun _ _ => rfl)) ea_nil)))) ss_nil)
      (ss_cons (st_if (te_cmp op_eq (nomark _) vop_eqS (ev_var 3 (pv 3)) ev_int) (ss_cons (st_set (fun _ p => ps_set (i := 5) sc_law_faulty.nd rfl (by first | exact Or.inl rfl | exact Or.inr rfl) p) (ev_itemN 2 (fun _ _ => rfl) (ev_var 4 (pv 4)) fun _ _ q => pe_ix ix_seq (pv 2) q (fun _ _ => rfl)))
      (ss_cons (st_put (i := 2) (fun _ _ p q => ps_asg p (pg_sub (pv 2) q set_list)) (ev_itemN 2 (fun _ _ => rfl) (ev_add (ev_var 4 (pv 4)) ev_int) fun _ _ q => pe_ix ix_seq (pv 2) q (fun _ _ => rfl)) (ev_var 4 (pv 4)))
      (ss_one (st_put (i := 2) (fun _ _ p q => ps_asg p (pg_sub (pv 2) q set_list)) (ev_var 5 (pv 5)) (ev_add (ev_var 4 (pv 4)) ev_int))))) ss_nil)
      (ss_cons (st_if (te_cmp op_eq (nomark _) vop_eqS (ev_var 3 (pv 3)) ev_int) (ss_one (st_put (i := 2) (fun _ _ p q => ps_asg p (pg_sub (pv 2) q set_list)) (cl_fnQ (ok_law_pick T) tk hr (by rfl) T.m_law_pick T.F_law_pick.kp T.b_law_pick (pv 0) (ea_cons (ev_tup (ea_cons (ev_tup (ea_cons (ev_item (fun _ _ => rfl) (ev_itemN 2 (fun _ _ => rfl) (ev_var 4 (pv 4)) fun _ _ q => pe_ix ix_seq (pv 2) q (fun _ _ => rfl)) ev_int) ea_nil)) (ea_cons (ev_tup (ea_cons (ev_item (fun _ _ => rfl) (ev_itemN 2 (fun _ _ => rfl) (ev_var 4 (pv 4)) fun _ _ q => pe_ix ix_seq (pv 2) q (fun _ _ => rfl)) ev_int) (ea_cons (ev_item (fun _ _ => rfl) (ev_itemN 2 (fun _ _ => rfl) (ev_var 4 (pv 4)) fun _ _ q => pe_ix ix_seq (pv 2) q (fun _ _ => rfl)) ev_int) (ea_cons ev_int ea_nil)))) (ea_cons (ev_tup ea_nil) ea_nil)))) ea_nil)) (ev_var 4 (pv 4)))) ss_nil)
      (ss_one (st_ret (ev_cb vc_tuple (ea_cons (ev_var 2 (pv 2)) ea_nil) fun _ p => pe_callTy call_tuple_of (by rfl) T.z_tuple (by decide +kernel) p)))))))))))))))) (fun _ _ _ _ h => h)
def g_law_off : MoS := (mSeq (mSet 2 (mFnQ 0 2 m_law_take (mCons (pur (.int 6)) (pur []))))
  (mSeq (mIfS (mB (mOp gEqS (mVar 2) (pur (.int 0)))) (mRet (mTup (mCons (mFnQ 0 2 m_law_pick (mCons (mTup (mCons (pur (.int 0)) (mCons (mUn gNeg (pur (.int 1))) (mCons (mUn gNeg (mOp gPow (pur (.int 10)) (pur (.int 20)))) (pur []))))) (pur []))) (mCons (mOp gIx (mVar 1) (pur (.int 1))) (mCons (mOp gIx (mVar 1) (pur (.int 2))) (mCons (mOp gIx (mVar 1) (pur (.int 3))) (pur []))))))) mNil)
  (mSeq (mIfS (mB (mOp gEqS (mVar 2) (pur (.int 1)))) (mRet (mTup (mCons (mOp gIx (mVar 1) (pur (.int 0))) (mCons (mFnQ 0 2 m_law_pick (mCons (mTup (mCons (pur (.int 255)) (mCons (pur (.int 256)) (mCons (mOp gPow (pur (.int 10)) (pur (.int 20))) (pur []))))) (pur []))) (mCons (mOp gIx (mVar 1) (pur (.int 2))) (mCons (mOp gIx (mVar 1) (pur (.int 3))) (pur []))))))) mNil)
  (mSeq (mIfS (mB (mOp gEqS (mVar 2) (pur (.int 2)))) (mRet (mTup (mCons (mOp gIx (mVar 1) (pur (.int 1))) (mCons (mOp gIx (mVar 1) (pur (.int 1))) (mCons (mOp gIx (mVar 1) (pur (.int 2))) (mCons (mOp gIx (mVar 1) (pur (.int 3))) (pur []))))))) mNil)
  (mSeq (mIfS (mB (mOp gEqS (mVar 2) (pur (.int 3)))) (mRet (mTup (mCons (mOp gIx (mVar 1) (pur (.int 1))) (mCons (mOp gIx (mVar 1) (pur (.int 0))) (mCons (mOp gIx (mVar 1) (pur (.int 2))) (mCons (mOp gIx (mVar 1) (pur (.int 3))) (pur []))))))) mNil)
  (mSeq (mIfS (mB (mOp gEqS (mVar 2) (pur (.int 4)))) (mRet (mTup (mCons (mOp gIx (mVar 1) (pur (.int 0))) (mCons (mOp gIx (mVar 1) (pur (.int 1))) (mCons (mFnQ 0 2 m_law_pick (mCons (mTup (mCons (mUn gNeg (pur (.int 1))) (mCons (pur (.int 256)) (pur [])))) (pur []))) (mCons (mOp gIx (mVar 1) (pur (.int 3))) (pur []))))))) mNil)
  (mRet (mTup (mCons (mOp gIx (mVar 1) (pur (.int 0))) (mCons (mOp gIx (mVar 1) (pur (.int 1))) (mCons (mOp gIx (mVar 1) (pur (.int 2))) (mCons (mFnQ 0 2 m_law_pick (mCons (mTup (mCons (pur (.int 256)) (mCons (mUn gNeg (pur (.int 1))) (pur [])))) (pur []))) (pur [])))))))))))))
def m_law_off : List D → List D → Option (Ans × List D) := runQ 3 g_law_off
theorem ok_law_off (T : Txt P w K mg) : FnOk P w K mg base (CXX P w) 3 T.f_law_off T.d_law_off ["pool", "four"] (SpQ K 2 m_law_off) := by
  exact fn_Q (g := g_law_off) T.F_law_off sc_law_off (fun cdv A outer s H E C hr tk => (ss_cons (st_set (fun _ p => ps_set (i := 2) sc_law_off.nd rfl (by first | exact Or.inl rfl | exact Or.inr rfl) p) (cl_fnQ (ok_law_take T) tk (hr.mono (by decide)) (by rfl) T.m_law_take T.F_law_take.kp T.b_law_take (pv 0) (ea_cons ev_int ea_nil)))
      (ss_cons (st_if (te_cmp op_eq (nomark _) vop_eqS (ev_var 2 (pv 2)) ev_int) (ss_one (st_ret (ev_tup (ea_cons (cl_fnQ (ok_law_pick T) tk hr (by rfl) T.m_law_pick T.F_law_pick.kp T.b_law_pick (pv 0) (ea_cons (ev_tup (ea_cons ev_int (ea_cons (ev_neg ev_int) (ea_cons (ev_neg (ev_pow ev_int ev_int)) ea_nil)))) ea_nil)) (ea_cons (ev_item (fun _ _ => rfl) (ev_var 1 (pv 1)) ev_int) (ea_cons (ev_item (fun _ _ => rfl) (ev_var 1 (pv 1)) ev_int) (ea_cons (ev_item (fun _ _ => rfl) (ev_var 1 (pv 1)) ev_int) ea_nil))))))) ss_nil)
      (ss_cons (st_if (te_cmp op_eq (nomark _) vop_eqS (ev_var 2 (pv 2)) ev_int) (ss_one (st_ret (ev_tup (ea_cons (ev_item (fun _ _ => rfl) (ev_var 1 (pv 1)) ev_int) (ea_cons (cl_fnQ (ok_law_pick T) tk hr (by rfl) T.m_law_pick T.F_law_pick.kp T.b_law_pick (pv 0) (ea_cons (ev_tup (ea_cons ev_int (ea_cons ev_int (ea_cons (ev_pow ev_int ev_int) ea_nil)))) ea_nil)) (ea_cons (ev_item (fun _ _ => rfl) (ev_var 1 (pv 1)) ev_int) (ea_cons (ev_item (fun _ _ => rfl) (ev_var 1 (pv 1)) ev_int) ea_nil))))))) ss_nil)
      (ss_cons (st_if (te_cmp op_eq (nomark _) vop_eqS (ev_var 2 (pv 2)) ev_int) (ss_one (st_ret (ev_tup (ea_cons (ev_item (fun _ _ => rfl) (ev_var 1 (pv 1)) ev_int) (ea_cons (ev_item (fun _ _ => rfl) (ev_var 1 (pv 1)) ev_int) (ea_cons (ev_item (fun _ _ => rfl) (ev_var 1 (pv 1)) ev_int) (ea_cons (ev_item (fun _ _ => rfl) (ev_var 1 (pv 1)) ev_int) ea_nil))))))) ss_nil)
      (ss_cons (st_if (te_cmp op_eq (nomark _) vop_eqS (ev_var 2 (pv 2)) ev_int) (ss_one (st_ret (ev_tup (ea_cons (ev_item (fun _ _ => rfl) (ev_var 1 (pv 1)) ev_int) (ea_cons (ev_item (fun _ _ => rfl) (ev_var 1 (pv 1)) ev_int) (ea_cons (ev_item (fun _ _ => rfl) (ev_var 1 (pv 1)) ev_int) (ea_cons (ev_item (fun _ _ => rfl) (ev_var 1 (pv 1)) ev_int) ea_nil))))))) ss_nil)
      (ss_cons (st_if (te_cmp op_eq (nomark _) vop_eqS (ev_var 2 (pv 2)) ev_int) (ss_one (st_ret (ev_tup (ea_cons (ev_item (fun _ _ => rfl) (ev_var 1 (pv 1)) ev_int) (ea_cons (ev_item (fun _ _ => rfl) (ev_var 1 (pv 1)) ev_int) (ea_cons (cl_fnQ (ok_law_pick T) tk hr (by rfl) T.m_law_pick T.F_law_pick.kp T.b_law_pick (pv 0) (ea_cons (ev_tup (ea_cons (ev_neg ev_int) (ea_cons ev_int ea_nil))) ea_nil)) (ea_cons (ev_item (fun _ _ => rfl) (ev_var 1 (pv 1)) ev_int) ea_nil))))))) ss_nil)
      (ss_one (st_ret (ev_tup (ea_cons (ev_item (fun _ _ => rfl) (ev_var 1 (pv 1)) ev_int) (ea_cons (ev_item (fun _ _ => rfl) (ev_var 1 (pv 1)) ev_int) (ea_cons (ev_item (fun _ _ => rfl) (ev_var 1 (pv 1)) ev_int) (ea_cons (cl_fnQ (ok_law_pick T) tk hr (by rfl) T.m_law_pick T.F_law_pick.kp T.b_law_pick (pv 0) (ea_cons (ev_tup (ea_cons ev_int (ea_cons (ev_neg ev_int) ea_nil))) ea_nil)) ea_nil)))))))))))))) (fun _ _ _ _ h => h)
def g_Curve_init : MoS := (mSeq (mIfS (mNot (mB (mFn 1 m_are_points (mCons (mVar 1) (pur []))))) (mRaise1 "BadValue" "field" (mCons (pur (.str (Str.ofString "points"))) (pur []))) mNil)
  (mSeq (mFldPut 0 "Curve" "points" (mCall (gOne gTuple) (mCons (mVar 1) (pur []))))
  (mFldPut 0 "Curve" "_heights" (mFn 1 m_heights (mCons (mFldN 0 "Curve" "points") (pur []))))))
def m_Curve_init : OB → List D → Option (Ans × OB) := runB 2 g_Curve_init
theorem ok_Curve_init (T : Txt P w K mg) : FnOk P w K mg base (CXX P w) 3 T.f_Curve_init T.d_Curve_init ["self", "points"] (SpB K 2 m_Curve_init) := by
  exact fn_B (g := g_Curve_init) T.F_Curve_init sc_Curve_init (fun cdv A outer s H E C hr tk => (ss_cons (st_if (te_not (te_val (cl_fn (ok_are_points T) tk (hr.mono (by decide)) (by rfl) T.m_are_points T.F_are_points.kp T.b_are_points (ea_cons (ev_var 1 (pv 1)) ea_nil)))) (ss_one (st_raise1 rfl tk T.O_BadValue T.iI_BadValue T.tI_BadValue (okI_BadValue T) (hr.mono (by decide)) T.bI_BadValue (by rfl) T.gC_BadValue T.nC_BadValue (ea_cons ev_str ea_nil))) ss_nil)
      (ss_cons (st_fld (i := 0) (c := "Curve") T.cf_Curve_points (ev_cb vc_tuple (ea_cons (ev_var 1 (pv 1)) ea_nil) fun _ p => pe_callTy call_tuple_of (by rfl) T.z_tuple (by decide +kernel) p) fun _ p => ps_fld (pv 0) p rfl)
      (ss_one (st_fld (i := 0) (c := "Curve") T.cf_Curve_heights (cl_fn (ok_heights T) tk (hr.mono (by decide)) (by rfl) T.m_heights T.F_heights.kp T.b_heights (ea_cons (ev_fldN (i := 0) (c := "Curve") T.cf_Curve_points (pe_fld (pv 0) rfl)) ea_nil)) fun _ p => ps_fld (pv 0) p rfl))))) (fun _ _ _ _ h => h)
def bd_law_same_1 (REC : List D → Option Ans) : MoS := (mIfS (mNot (mB (mFn 2 REC (mCons (mOp gIx (mVar 0) (mVar 2)) (mCons (mOp gIx (mVar 1) (mVar 2)) (pur [])))))) (mRet (pur (.bl false))) mNil)
def g_law_same (REC : List D → Option Ans) : MoS := (mSeq (mIfS (mB (mCall gIsi (mCons (mVar 1) (mCons (pur (.rf (.ty "tuple"))) (pur []))))) (mSeq (mIfS (mOr (mNot (mB (mCall gIsi (mCons (mVar 0) (mCons (pur (.rf (.ty "tuple"))) (pur [])))))) (mB (mOp gNeS (mLenN 0) (mLenN 1)))) (mRet (pur (.bl false))) mNil)
  (mSeq (mFor (bnd (mCons (mLenN 1) (pur [])) fun ds => lft (rng1 ds)) (gdName 2) (bd_law_same_1 REC))
  (mRet (pur (.bl true))))) mNil)
  (mSeq (mIfS (mB (mOp (gIsN false) (mVar 1) (pur .non))) (mRet (mOp (gIsN false) (mVar 0) (pur .non))) mNil)
  (mSeq (mIfS (mB (mCall gIsi (mCons (mVar 1) (mCons (pur (.rf (.ty "bool"))) (pur []))))) (mRet (mAndV (mCall gIsi (mCons (mVar 0) (mCons (pur (.rf (.ty "bool"))) (pur [])))) (mOp gEqS (mVar 0) (mVar 1)))) mNil)
  (mRet (mAndV (mFn 1 m_law_whole (mCons (mVar 0) (pur []))) (mOp gEqS (mVar 0) (mVar 1)))))))
def mN_law_same : Nat → List D → Option Ans
  | 0 => fun _ => none
  | n + 1 => runP 3 (g_law_same (mN_law_same n))
theorem okN_law_same (T : Txt P w K mg) : ∀ n : Nat, FnOk P w K mg base (CXX P w) (1 + n) T.f_law_same T.d_law_same ["got", "due"] (SpP K 2 (mN_law_same n))
  | 0 => ok_none rfl
  | n + 1 => have ih := okN_law_same T n
    fn_P (k := 1 + n) (g := g_law_same (mN_law_same n)) T.F_law_same sc_law_same (fun cdv A outer s H E C hA hr tk => (ss_cons (st_if (te_val (ev_cb vc_isi (ea_cons (ev_var 1 (pv 1)) (ea_cons (ev_c (d := .rf (.ty "tuple")) (pe_bltn (v := .ty "tuple") (by rfl) T.z_tuple (by decide +kernel) rfl) (fun _ _ => .rf _)) ea_nil)) fun _ p => pe_callB call_isi (by rfl) T.z_isinstance (by decide +kernel) p)) (ss_cons (st_if (te_w (tw_or (te_not (te_val (ev_cb vc_isi (ea_cons (ev_var 0 (pv 0)) (ea_cons (ev_c (d := .rf (.ty "tuple")) (pe_bltn (v := .ty "tuple") (by rfl) T.z_tuple (by decide +kernel) rfl) (fun _ _ => .rf _)) ea_nil)) fun _ p => pe_callB call_isi (by rfl) T.z_isinstance (by decide +kernel) p))) (tw_or1 (te_cmp op_ne (nomark _) vop_neS (ev_lenN (i := 0) (pe_callB call_len (by rfl) T.z_len PySem.boot_len (pa_cons (pv 0) pa_nil))) (ev_lenN (i := 1) (pe_callB call_len (by rfl) T.z_len PySem.boot_len (pa_cons (pv 1) pa_nil))))))) (ss_one (st_ret ev_bl)) ss_nil)
      (ss_cons (st_for (ei_range1 (ea_cons (ev_lenN (i := 1) (pe_callB call_len (by rfl) T.z_len PySem.boot_len (pa_cons (pv 1) pa_nil))) ea_nil) fun _ p => pi_range1 (by rfl) T.z_range p) (ss_one (st_if (te_not (te_val (cl_fn (ih) tk hr (by rfl) T.m_law_same T.F_law_same.kp T.b_law_same (ea_cons (ev_item (fun _ _ => rfl) (ev_var 0 (pv 0)) (ev_var 2 (pv 2))) (ea_cons (ev_item (fun _ _ => rfl) (ev_var 1 (pv 1)) (ev_var 2 (pv 2))) ea_nil))))) (ss_one (st_ret ev_bl)) ss_nil)) (sg_name (i := 2)) fun _ _ p q => ps_for (passes_of rfl) rfl p (pg_name (i := 2) sc_law_same.nd rfl (by first | exact Or.inl rfl | exact Or.inr rfl)) q)
      (ss_one (st_ret ev_bl)))) ss_nil)
      (ss_cons (st_if (te_cmp op_isN (nomark _) vop_isN (ev_var 1 (pv 1)) ev_non) (ss_one (st_ret (ev_isN (ev_var 0 (pv 0)) ev_non))) ss_nil)
      (ss_cons (st_if (te_val (ev_cb vc_isi (ea_cons (ev_var 1 (pv 1)) (ea_cons (ev_c (d := .rf (.ty "bool")) (pe_bltn (v := .ty "bool") (by rfl) T.z_bool (by decide +kernel) rfl) (fun _ _ => .rf _)) ea_nil)) fun _ p => pe_callB call_isi (by rfl) T.z_isinstance (by decide +kernel) p)) (ss_one (st_ret (ev_and (ev_cb vc_isi (ea_cons (ev_var 0 (pv 0)) (ea_cons (ev_c (d := .rf (.ty "bool")) (pe_bltn (v := .ty "bool") (by rfl) T.z_bool (by decide +kernel) rfl) (fun _ _ => .rf _)) ea_nil)) fun _ p => pe_callB call_isi (by rfl) T.z_isinstance (by decide +kernel) p) (ev_one (ev_eqS (ev_var 0 (pv 0)) (ev_var 1 (pv 1))))))) ss_nil)
      (ss_one (st_ret (ev_and (cl_fn (ok_law_whole T) tk (hr.mono (by omega)) (by rfl) T.m_law_whole T.F_law_whole.kp T.b_law_whole (ea_cons (ev_var 0 (pv 0)) ea_nil)) (ev_one (ev_eqS (ev_var 0 (pv 0)) (ev_var 1 (pv 1))))))))))) (fun _ _ _ h => h)
def m_law_same : List D → Option Ans := mN_law_same 3
theorem ok_law_same (T : Txt P w K mg) : FnOk P w K mg base (CXX P w) 4 T.f_law_same T.d_law_same ["got", "due"] (SpP K 2 m_law_same) := okN_law_same T 3
def bd_law_points_1 : MoS := (mSeq (mSet 5 (mOp gAdd (pur (.int 1)) (mFnQ 0 2 m_law_take (mCons (pur (.int 254)) (pur [])))))
  (mSeq (mIfS (mB (mOp gEqS (mFnQ 0 2 m_law_take (mCons (pur (.int 3)) (pur []))) (pur (.int 2)))) (mSet 5 (mCall (gTwo gMin2) (mCons (pur (.int 254)) (mCons (mOp gAdd (mVar 3) (pur (.int 1))) (pur []))))) mNil)
  (mSeq (mDPut 2 (mFnQ 0 1 m_law_value (pur [])) (mVar 5))
  (mSet 3 (mVar 5)))))
def bd_law_points_2 : Mo D := (mDGet 2 (mVar 5))
def bd_law_points_3 : Mo (List D) := (mLc [5] (bnd (mSl gSlL (mVar 6) (bnd (pur (.int 1)) fun d => lft ((asI d).map some)) (bnd (mUn gNeg (pur (.int 1))) fun d => lft ((asI d).map some))) fun d => lft (lstOf d)) (gdName 5) (pur true) bd_law_points_2)
def bd_law_points_4 : Mo D := (mTup (mCons (mOp gIx (mVar 6) (mVar 4)) (mCons (mOp gIx (mVar 7) (mVar 4)) (pur []))))
def bd_law_points_5 : Mo (List D) := (mLc [4] (bnd (mCons (mLenN 6) (pur [])) fun ds => lft (rng1 ds)) (gdName 4) (pur true) bd_law_points_4)
def g_law_points : MoS := (mSeq (mSet 1 (mFnQ 0 2 m_law_take (mCons (pur (.int 5)) (pur []))))
  (mSeq (mIfS (mB (mOp gEqS (mFnQ 0 2 m_law_take (mCons (pur (.int 9)) (pur []))) (pur (.int 8)))) (mSet 1 (mFnQ 0 2 m_law_take (mCons (pur (.int 15)) (pur [])))) mNil)
  (mSeq (mNewB 2 (.dk []))
  (mSeq (mSet 3 (pur (.int 0)))
  (mSeq (mFor (bnd (mCons (mVar 1) (pur [])) fun ds => lft (rng1 ds)) (gdName 4) bd_law_points_1)
  (mSeq (mSetO 6 (mCatO (mOp gCatL (mLst (mCons (pur (.int 0)) (pur []))) (mCall (gOne gSorted) (mCons (mFz (mKeys 2 5)) (pur [])))) (mLst (mCons (pur (.int 255)) (pur [])))))
  (mSeq (mSetO 7 (mCatO (mOp gCatL (mLst (mCons (mFnQ 0 1 m_law_value (pur [])) (pur []))) (mFz bd_law_points_3)) (mLst (mCons (mFnQ 0 1 m_law_value (pur [])) (pur [])))))
  (mSeq (mIfS (mB (mOp gEqS (mFnQ 0 2 m_law_take (mCons (pur (.int 3)) (pur []))) (pur (.int 2)))) (mSet 7 (mCall (gOne gSorted) (mCons (mVar 7) (pur [])))) mNil)
  (mRet (mCall (gOne gTuple) (mCons (mFz bd_law_points_5) (pur []))))))))))))
def m_law_points : List D → List D → Option (Ans × List D) := runQ 8 g_law_points
theorem ok_law_points (T : Txt P w K mg) : FnOk P w K mg base (CXX P w) 4 T.f_law_points T.d_law_points ["pool"] (SpQ K 1 m_law_points) := by
  exact fn_Q (g := g_law_points) T.F_law_points sc_law_points (fun cdv A outer s H E C hr tk => (ss_cons (st_set (fun _ p => ps_set (i := 1) sc_law_points.nd rfl (by first | exact Or.inl rfl | exact Or.inr rfl) p) (cl_fnQ (ok_law_take T) tk (hr.mono (by decide)) (by rfl) T.m_law_take T.F_law_take.kp T.b_law_take (pv 0) (ea_cons ev_int ea_nil)))
      (ss_cons (st_if (te_cmp op_eq (nomark _) vop_eqS (cl_fnQ (ok_law_take T) tk (hr.mono (by decide)) (by rfl) T.m_law_take T.F_law_take.kp T.b_law_take (pv 0) (ea_cons ev_int ea_nil)) ev_int) (ss_one (st_set (fun _ p => ps_set (i := 1) sc_law_points.nd rfl (by first | exact Or.inl rfl | exact Or.inr rfl) p) (cl_fnQ (ok_law_take T) tk (hr.mono (by decide)) (by rfl) T.m_law_take T.F_law_take.kp T.b_law_take (pv 0) (ea_cons ev_int ea_nil)))) ss_nil)
      (ss_cons (st_newK (fun _ p => ps_set (i := 2) sc_law_points.nd rfl (by first | exact Or.inl rfl | exact Or.inr rfl) p))
      (ss_cons (st_set (fun _ p => ps_set (i := 3) sc_law_points.nd rfl (by first | exact Or.inl rfl | exact Or.inr rfl) p) ev_int)
      (ss_cons (st_for (ei_range1 (ea_cons (ev_var 1 (pv 1)) ea_nil) fun _ p => pi_range1 (by rfl) T.z_range p) (ss_cons (st_set (fun _ p => ps_set (i := 5) sc_law_points.nd rfl (by first | exact Or.inl rfl | exact Or.inr rfl) p) (ev_add ev_int (cl_fnQ (ok_law_take T) tk (hr.mono (by decide)) (by rfl) T.m_law_take T.F_law_take.kp T.b_law_take (pv 0) (ea_cons ev_int ea_nil))))
      (ss_cons (st_if (te_cmp op_eq (nomark _) vop_eqS (cl_fnQ (ok_law_take T) tk (hr.mono (by decide)) (by rfl) T.m_law_take T.F_law_take.kp T.b_law_take (pv 0) (ea_cons ev_int ea_nil)) ev_int) (ss_one (st_set (fun _ p => ps_set (i := 5) sc_law_points.nd rfl (by first | exact Or.inl rfl | exact Or.inr rfl) p) (ev_cb vc_min2 (ea_cons ev_int (ea_cons (ev_add (ev_var 3 (pv 3)) ev_int) ea_nil)) fun _ p => pe_callB (call_min2 rfl) (by rfl) T.z_min (by decide +kernel) p))) ss_nil)
      (ss_cons (st_dput (i := 2) (fun _ _ p q => ps_dput (hu_of hr) (pv 2) q p rfl) (cl_fnQ (ok_law_value T) tk hr (by rfl) T.m_law_value T.F_law_value.kp T.b_law_value (pv 0) ea_nil) (ev_var 5 (pv 5)))
      (ss_one (st_set (fun _ p => ps_set (i := 3) sc_law_points.nd rfl (by first | exact Or.inl rfl | exact Or.inr rfl) p) (ev_var 5 (pv 5))))))) (sg_name (i := 4)) fun _ _ p q => ps_for (passes_of rfl) rfl p (pg_name (i := 4) sc_law_points.nd rfl (by first | exact Or.inl rfl | exact Or.inr rfl)) q)
      (ss_cons (st_setO (fun _ p => ps_set (i := 6) sc_law_points.nd rfl (by first | exact Or.inl rfl | exact Or.inr rfl) p) (eo_cat (ev_op op_cat vop_catL (ev_lst (ea_cons ev_int ea_nil)) (ev_cb vc_sorted (ea_cons (eo_keys (i := 2) (j := 5) (pe_lock (pe_lc (own := [("x", 5)]) rfl sc_law_points.nd (pi_keys (pv 2)) (blkOk_by (own := [("x", 5)]) (N := N_law_points) (sc := defScope s_law_points) (by decide +kernel)) (fun _ _ _ _ _ => pg_name (i := 5) sc_law_points.nd rfl (by first | exact Or.inl rfl | exact Or.inr rfl)) (fun _ _ _ _ _ => pts_nil) (fun _ _ _ _ _ => pv 5)))).frz ea_nil) fun _ p => pe_callB cr_sortedI (by rfl) T.z_sorted (by decide +kernel) p)) (ev_lst (ea_cons ev_int ea_nil))))
      (ss_cons (st_setO (fun _ p => ps_set (i := 7) sc_law_points.nd rfl (by first | exact Or.inl rfl | exact Or.inr rfl) p) (eo_cat (ev_op op_cat vop_catL (ev_lst (ea_cons (cl_fnQ (ok_law_value T) tk hr (by rfl) T.m_law_value T.F_law_value.kp T.b_law_value (pv 0) ea_nil) ea_nil)) (ev_lc (own := [("x", 5)]) rfl sc_law_points.nd (ei_list (ev_sl sl_list vsl_list (ev_var 6 (pv 6)) (eo_some ev_int) (eo_some (ev_neg ev_int)))) (blkOk_by (own := [("x", 5)]) (N := N_law_points) (sc := defScope s_law_points) (by decide +kernel)) (fun _ _ _ _ _ => (pg_name (i := 5) sc_law_points.nd rfl (by first | exact Or.inl rfl | exact Or.inr rfl))) (sg_name (i := 5)) (fun _ _ _ _ _ => pt_nilD) (fun _ _ _ _ _ => (ev_dget (i := 2) (ev_var 5 (pv 5)) fun _ p => pe_dget (hu_of hr) (pv 2) p (fun _ _ => rfl))) (by decide) (by decide)).frz) (ev_lst (ea_cons (cl_fnQ (ok_law_value T) tk hr (by rfl) T.m_law_value T.F_law_value.kp T.b_law_value (pv 0) ea_nil) ea_nil))))
      (ss_cons (st_if (te_cmp op_eq (nomark _) vop_eqS (cl_fnQ (ok_law_take T) tk (hr.mono (by decide)) (by rfl) T.m_law_take T.F_law_take.kp T.b_law_take (pv 0) (ea_cons ev_int ea_nil)) ev_int) (ss_one (st_set (fun _ p => ps_set (i := 7) sc_law_points.nd rfl (by first | exact Or.inl rfl | exact Or.inr rfl) p) (ev_cb vc_sorted (ea_cons (ev_var 7 (pv 7)) ea_nil) fun _ p => pe_callB cr_sortedI (by rfl) T.z_sorted (by decide +kernel) p))) ss_nil)
      (ss_one (st_ret (ev_cb vc_tuple (ea_cons (ev_lc (own := [("k", 4)]) rfl sc_law_points.nd (ei_range1 (ea_cons (ev_lenN (i := 6) (pe_callB call_len (by rfl) T.z_len PySem.boot_len (pa_cons (pv 6) pa_nil))) ea_nil) fun _ p => pi_range1 (by rfl) T.z_range p) (blkOk_by (own := [("k", 4)]) (N := N_law_points) (sc := defScope s_law_points) (by decide +kernel)) (fun _ _ _ _ _ => (pg_name (i := 4) sc_law_points.nd rfl (by first | exact Or.inl rfl | exact Or.inr rfl))) (sg_name (i := 4)) (fun _ _ _ _ _ => pt_nilD) (fun _ _ _ _ _ => (ev_tup (ea_cons (ev_item (fun _ _ => rfl) (ev_var 6 (pv 6)) (ev_var 4 (pv 4))) (ea_cons (ev_item (fun _ _ => rfl) (ev_var 7 (pv 7)) (ev_var 4 (pv 4))) ea_nil)))) (by decide) (by decide)).frz ea_nil) fun _ p => pe_callTy call_tuple_of (by rfl) T.z_tuple (by decide +kernel) p)))))))))))) (fun _ _ _ _ h => h)
def g_law_levels : MoS := (mSeq (mSet 1 (mIf (mB (mOp gEqS (mFnQ 0 2 m_law_take (mCons (pur (.int 4)) (pur []))) (pur (.int 3)))) (mFnQ 0 2 m_law_pick (mCons (mTup (mCons (pur (.int 1)) (mCons (pur (.int 253)) (pur [])))) (pur []))) (mOp gAdd (pur (.int 1)) (mFnQ 0 2 m_law_take (mCons (pur (.int 253)) (pur []))))))
  (mSeq (mSet 2 (mOp gAdd (mOp gAdd (mVar 1) (pur (.int 1))) (mFnQ 0 2 m_law_take (mCons (mOp DL.gSub (pur (.int 254)) (mVar 1)) (pur [])))))
  (mSeq (mIfS (mB (mOp gEqS (mFnQ 0 2 m_law_take (mCons (pur (.int 4)) (pur []))) (pur (.int 3)))) (mSet 2 (pur (.int 254))) mNil)
  (mRet (mTup (mCons (mVar 1) (mCons (mVar 2) (mCons (mFnQ 0 1 m_law_value (pur [])) (mCons (mFnQ 0 1 m_law_value (pur [])) (pur []))))))))))
def m_law_levels : List D → List D → Option (Ans × List D) := runQ 3 g_law_levels
theorem ok_law_levels (T : Txt P w K mg) : FnOk P w K mg base (CXX P w) 4 T.f_law_levels T.d_law_levels ["pool"] (SpQ K 1 m_law_levels) := by
  exact fn_Q (g := g_law_levels) T.F_law_levels sc_law_levels (fun cdv A outer s H E C hr tk => (ss_cons (st_set (fun _ p => ps_set (i := 1) sc_law_levels.nd rfl (by first | exact Or.inl rfl | exact Or.inr rfl) p) (ev_if (te_cmp op_eq (nomark _) vop_eqS (cl_fnQ (ok_law_take T) tk (hr.mono (by decide)) (by rfl) T.m_law_take T.F_law_take.kp T.b_law_take (pv 0) (ea_cons ev_int ea_nil)) ev_int) (cl_fnQ (ok_law_pick T) tk (hr.mono (by decide)) (by rfl) T.m_law_pick T.F_law_pick.kp T.b_law_pick (pv 0) (ea_cons (ev_tup (ea_cons ev_int (ea_cons ev_int ea_nil))) ea_nil)) (ev_add ev_int (cl_fnQ (ok_law_take T) tk (hr.mono (by decide)) (by rfl) T.m_law_take T.F_law_take.kp T.b_law_take (pv 0) (ea_cons ev_int ea_nil)))))
      (ss_cons (st_set (fun _ p => ps_set (i := 2) sc_law_levels.nd rfl (by first | exact Or.inl rfl | exact Or.inr rfl) p) (ev_add (ev_add (ev_var 1 (pv 1)) ev_int) (cl_fnQ (ok_law_take T) tk (hr.mono (by decide)) (by rfl) T.m_law_take T.F_law_take.kp T.b_law_take (pv 0) (ea_cons (ev_sub ev_int (ev_var 1 (pv 1))) ea_nil))))
      (ss_cons (st_if (te_cmp op_eq (nomark _) vop_eqS (cl_fnQ (ok_law_take T) tk (hr.mono (by decide)) (by rfl) T.m_law_take T.F_law_take.kp T.b_law_take (pv 0) (ea_cons ev_int ea_nil)) ev_int) (ss_one (st_set (fun _ p => ps_set (i := 2) sc_law_levels.nd rfl (by first | exact Or.inl rfl | exact Or.inr rfl) p) ev_int)) ss_nil)
      (ss_one (st_ret (ev_tup (ea_cons (ev_var 1 (pv 1)) (ea_cons (ev_var 2 (pv 2)) (ea_cons (cl_fnQ (ok_law_value T) tk hr (by rfl) T.m_law_value T.F_law_value.kp T.b_law_value (pv 0) ea_nil) (ea_cons (cl_fnQ (ok_law_value T) tk hr (by rfl) T.m_law_value T.F_law_value.kp T.b_law_value (pv 0) ea_nil) ea_nil))))))))))) (fun _ _ _ _ h => h)
def g_law_is : MoS := (mRet (mAndV (mIsO "Curve" (mVar 0)) (mFn 2 m_law_same (mCons (mFldN 0 "Curve" "points") (mCons (mVar 1) (pur []))))))
def m_law_is : List D → Option Ans := runP 2 g_law_is
theorem ok_law_is (T : Txt P w K mg) : FnOk P w K mg base (CXX P w) 5 T.f_law_is T.d_law_is ["curve", "points"] (SpP K 2 m_law_is) := by
  exact fn_P (g := g_law_is) T.F_law_is sc_law_is (fun cdv A outer s H E C hA hr tk => (ss_one (st_ret (ev_and (ev_isO (c := "Curve") T.is_Curve (ev_var 0 (pv 0)) (fun _ p => pa_cons p (pa_cons (pe_glob (v := .ref T.C_Curve) (by rfl) T.gC_Curve rfl) pa_nil)) fun _ p => pe_callB call_isi (by rfl) T.z_isinstance (by decide +kernel) p) (ev_one (cl_fn (ok_law_same T) tk hr (by rfl) T.m_law_same T.F_law_same.kp T.b_law_same (ea_cons (ev_fldN (i := 0) (c := "Curve") T.cf_Curve_points (pe_fld (pv 0) rfl)) (ea_cons (ev_var 1 (pv 1)) ea_nil)))))))) (fun _ _ _ h => h)
def g_Curve_eq : MoS := (mRet (mAndV (mIsO "Curve" (mVar 1)) (mOp gEq (mFldN 0 "Curve" "points") (mFldN 1 "Curve" "points"))))
def m_Curve_eq : List D → Option Ans := runP 2 g_Curve_eq
theorem ok_Curve_eq (T : Txt P w K mg) : FnOk P w K mg base (CXX P w) 5 T.f_Curve_eq T.d_Curve_eq ["self", "other"] (SpP K 2 m_Curve_eq) := by
  exact fn_P (g := g_Curve_eq) T.F_Curve_eq sc_Curve_eq (fun cdv A outer s H E C hA hr tk => (ss_one (st_ret (ev_and (ev_isO (c := "Curve") T.is_Curve (ev_var 1 (pv 1)) (fun _ p => pa_cons p (pa_cons (pe_glob (v := .ref T.C_Curve) (by rfl) T.gC_Curve rfl) pa_nil)) fun _ p => pe_callB call_isi (by rfl) T.z_isinstance (by decide +kernel) p) (ev_one (ev_eq (hu64 hr) (ev_fldN (i := 0) (c := "Curve") T.cf_Curve_points (pe_fld (pv 0) rfl)) (ev_fldN (i := 1) (c := "Curve") T.cf_Curve_points (pe_fld (pv 1) rfl)))))))) (fun _ _ _ h => h)
def g_Curve_identity : MoS := (mRet (mMake "Curve" 2 m_Curve_init (mCons (mTup (mCons (mTup (mCons (pur (.int 0)) (mCons (pur (.int 0)) (pur [])))) (mCons (mTup (mCons (pur (.int 255)) (mCons (pur (.int 255)) (pur [])))) (pur [])))) (pur []))))
def m_Curve_identity : List D → Option Ans := runP 0 g_Curve_identity
theorem ok_Curve_identity (T : Txt P w K mg) : FnOk P w K mg base (CXX P w) 5 T.f_Curve_identity T.d_Curve_identity [] (SpP K 0 m_Curve_identity) := by
  exact fn_P (g := g_Curve_identity) T.F_Curve_identity sc_Curve_identity (fun cdv A outer s H E C hA hr tk => (ss_one (st_ret (cl_make T.mk_Curve (ok_Curve_init T) tk hr (by rfl) T.gC_Curve T.nC_Curve T.b_Curve_init (ea_cons (ev_tup (ea_cons (ev_tup (ea_cons ev_int (ea_cons ev_int ea_nil))) (ea_cons (ev_tup (ea_cons ev_int (ea_cons ev_int ea_nil))) ea_nil))) ea_nil))))) (fun _ _ _ h => h)
def g_Curve_inverted : MoS := (mRet (mMake "Curve" 2 m_Curve_init (mCons (mTup (mCons (mTup (mCons (pur (.int 0)) (mCons (pur (.int 255)) (pur [])))) (mCons (mTup (mCons (pur (.int 255)) (mCons (pur (.int 0)) (pur [])))) (pur [])))) (pur []))))
def m_Curve_inverted : List D → Option Ans := runP 0 g_Curve_inverted
theorem ok_Curve_inverted (T : Txt P w K mg) : FnOk P w K mg base (CXX P w) 5 T.f_Curve_inverted T.d_Curve_inverted [] (SpP K 0 m_Curve_inverted) := by
  exact fn_P (g := g_Curve_inverted) T.F_Curve_inverted sc_Curve_inverted (fun cdv A outer s H E C hA hr tk => (ss_one (st_ret (cl_make T.mk_Curve (ok_Curve_init T) tk hr (by rfl) T.gC_Curve T.nC_Curve T.b_Curve_init (ea_cons (ev_tup (ea_cons (ev_tup (ea_cons ev_int (ea_cons ev_int ea_nil))) (ea_cons (ev_tup (ea_cons ev_int (ea_cons ev_int ea_nil))) ea_nil))) ea_nil))))) (fun _ _ _ h => h)
def g_Curve_levels : MoS := (mSeq (mIfS (mOr (mNot (mB (mChain3 gLt gLt gLt (pur (.int 0)) (mVar 0) (mVar 1) (pur (.int 255))))) (mOr (mNot (mB (mChain gLe gLe (pur (.int 0)) (mVar 2) (pur (.int 255))))) (mNot (mB (mChain gLe gLe (pur (.int 0)) (mVar 3) (pur (.int 255))))))) (mRaise1 "BadValue" "field" (mCons (pur (.str (Str.ofString "levels"))) (pur []))) mNil)
  (mRet (mMake "Curve" 2 m_Curve_init (mCons (mTup (mCons (mTup (mCons (pur (.int 0)) (mCons (mVar 2) (pur [])))) (mCons (mTup (mCons (mVar 0) (mCons (mVar 2) (pur [])))) (mCons (mTup (mCons (mVar 1) (mCons (mVar 3) (pur [])))) (mCons (mTup (mCons (pur (.int 255)) (mCons (mVar 3) (pur [])))) (pur [])))))) (pur [])))))
def m_Curve_levels : List D → Option Ans := runP 4 g_Curve_levels
theorem ok_Curve_levels (T : Txt P w K mg) : FnOk P w K mg base (CXX P w) 5 T.f_Curve_levels T.d_Curve_levels ["black", "white", "low", "high"] (SpP K 4 m_Curve_levels) := by
  exact fn_P (g := g_Curve_levels) T.F_Curve_levels sc_Curve_levels (fun cdv A outer s H E C hA hr tk => (ss_cons (st_if (te_w (tw_or (te_not (te_chain3 (vop_I0 fun _ _ _ => .bl _) (vop_I0 fun _ _ _ => .bl _) (vop_I0 fun _ _ _ => .bl _) ev_int (ev_var 0 (pv 0)) (ev_var 1 (pv 1)) ev_int fun _ _ _ _ p q r t => pt_chain3 op_lt op_lt op_lt p q r t)) (tw_or (te_not (te_chain op_le op_le (vop_I0 fun _ _ _ => .bl _) (vop_I0 fun _ _ _ => .bl _) ev_int (ev_var 2 (pv 2)) ev_int fun _ _ _ p q r => pt_chain op_le op_le p q r)) (tw_or1 (te_not (te_chain op_le op_le (vop_I0 fun _ _ _ => .bl _) (vop_I0 fun _ _ _ => .bl _) ev_int (ev_var 3 (pv 3)) ev_int fun _ _ _ p q r => pt_chain op_le op_le p q r)))))) (ss_one (st_raise1 rfl tk T.O_BadValue T.iI_BadValue T.tI_BadValue (okI_BadValue T) (hr.mono (by decide)) T.bI_BadValue (by rfl) T.gC_BadValue T.nC_BadValue (ea_cons ev_str ea_nil))) ss_nil)
      (ss_one (st_ret (cl_make T.mk_Curve (ok_Curve_init T) tk hr (by rfl) T.gC_Curve T.nC_Curve T.b_Curve_init (ea_cons (ev_tup (ea_cons (ev_tup (ea_cons ev_int (ea_cons (ev_var 2 (pv 2)) ea_nil))) (ea_cons (ev_tup (ea_cons (ev_var 0 (pv 0)) (ea_cons (ev_var 2 (pv 2)) ea_nil))) (ea_cons (ev_tup (ea_cons (ev_var 1 (pv 1)) (ea_cons (ev_var 3 (pv 3)) ea_nil))) (ea_cons (ev_tup (ea_cons ev_int (ea_cons (ev_var 3 (pv 3)) ea_nil))) ea_nil))))) ea_nil)))))) (fun _ _ _ h => h)
def g_Curve_threshold : MoS := (mSeq (mIfS (mNot (mB (mChain gLe gLe (pur (.int 1)) (mVar 0) (pur (.int 255))))) (mRaise1 "BadValue" "field" (mCons (pur (.str (Str.ofString "threshold"))) (pur []))) mNil)
  (mSeq (mSetO 1 (mLstO (mCons (mTup (mCons (mOp DL.gSub (mVar 0) (pur (.int 1))) (mCons (pur (.int 0)) (pur [])))) (mCons (mTup (mCons (mVar 0) (mCons (pur (.int 255)) (pur [])))) (pur [])))))
  (mSeq (mIfS (mB (mOp gGt (mVar 0) (pur (.int 1)))) (mIns 1 (mCons (pur (.int 0)) (mCons (mTup (mCons (pur (.int 0)) (mCons (pur (.int 0)) (pur [])))) (pur [])))) mNil)
  (mSeq (mIfS (mB (mOp gLt (mVar 0) (pur (.int 255)))) (mApp 1 (mTup (mCons (pur (.int 255)) (mCons (pur (.int 255)) (pur []))))) mNil)
  (mRet (mMake "Curve" 2 m_Curve_init (mCons (mCall (gOne gTuple) (mCons (mVar 1) (pur []))) (pur []))))))))
def m_Curve_threshold : List D → Option Ans := runP 2 g_Curve_threshold
theorem ok_Curve_threshold (T : Txt P w K mg) : FnOk P w K mg base (CXX P w) 5 T.f_Curve_threshold T.d_Curve_threshold ["n"] (SpP K 1 m_Curve_threshold) := by
  exact fn_P (g := g_Curve_threshold) T.F_Curve_threshold sc_Curve_threshold (fun cdv A outer s H E C hA hr tk => (ss_cons (st_if (te_not (te_chain op_le op_le (vop_I0 fun _ _ _ => .bl _) (vop_I0 fun _ _ _ => .bl _) ev_int (ev_var 0 (pv 0)) ev_int fun _ _ _ p q r => pt_chain op_le op_le p q r)) (ss_one (st_raise1 rfl tk T.O_BadValue T.iI_BadValue T.tI_BadValue (okI_BadValue T) (hr.mono (by decide)) T.bI_BadValue (by rfl) T.gC_BadValue T.nC_BadValue (ea_cons ev_str ea_nil))) ss_nil)
      (ss_cons (st_setO (fun _ p => ps_set (i := 1) sc_Curve_threshold.nd rfl (by first | exact Or.inl rfl | exact Or.inr rfl) p) (eo_lst (ea_cons (ev_tup (ea_cons (ev_sub (ev_var 0 (pv 0)) ev_int) (ea_cons ev_int ea_nil))) (ea_cons (ev_tup (ea_cons (ev_var 0 (pv 0)) (ea_cons ev_int ea_nil))) ea_nil))))
      (ss_cons (st_if (te_cmp op_gt (nomark _) (vop_I0 fun _ _ _ => .bl _) (ev_var 0 (pv 0)) ev_int) (ss_one (st_ins (i := 1) (fun _ p => ps_expr (pe_bm PySem.F.plainAttrs_list PySem.F.slot_list_insert PySem.F.type_list_insert mt_ins (pv 1) p)) (ea_cons ev_int (ea_cons (ev_tup (ea_cons ev_int (ea_cons ev_int ea_nil))) ea_nil)))) ss_nil)
      (ss_cons (st_if (te_cmp op_lt (nomark _) (vop_I0 fun _ _ _ => .bl _) (ev_var 0 (pv 0)) ev_int) (ss_one (st_app (i := 1) (fun _ p => ps_expr (pe_bm PySem.F.plainAttrs_list PySem.F.slot_list_append PySem.F.type_list_append mt_append (pv 1) (pa_cons p pa_nil))) (ev_tup (ea_cons ev_int (ea_cons ev_int ea_nil))))) ss_nil)
      (ss_one (st_ret (cl_make T.mk_Curve (ok_Curve_init T) tk hr (by rfl) T.gC_Curve T.nC_Curve T.b_Curve_init (ea_cons (ev_cb vc_tuple (ea_cons (ev_var 1 (pv 1)) ea_nil) fun _ p => pe_callTy call_tuple_of (by rfl) T.z_tuple (by decide +kernel) p) ea_nil))))))))) (fun _ _ _ h => h)
def g_law_refused : MoS := (mSeq (mSet 2 (mTup (mCons (pur (.str (Str.ofString "let"))) (mCons (pur (.bl false)) (mCons (pur (.bl false)) (pur []))))))
  (mSeq (mTry 3 [("BadValue", true)] (mSeq (mIfS (mB (mOp gEqS (mVar 0) (pur (.str (Str.ofString "points"))))) (mDrop (mMake "Curve" 2 m_Curve_init (mCons (mVar 1) (pur [])))) mNil)
  (mSeq (mIfS (mB (mOp gEqS (mVar 0) (pur (.str (Str.ofString "levels"))))) (mDrop (mFn 4 m_Curve_levels (mCons (mOp gIx (mVar 1) (pur (.int 0))) (mCons (mOp gIx (mVar 1) (pur (.int 1))) (mCons (mOp gIx (mVar 1) (pur (.int 2))) (mCons (mOp gIx (mVar 1) (pur (.int 3))) (pur []))))))) mNil)
  (mIfS (mB (mOp gEqS (mVar 0) (pur (.str (Str.ofString "threshold"))))) (mDrop (mFn 1 m_Curve_threshold (mCons (mVar 1) (pur [])))) mNil))) fun x => (mSeq (mSet 4 (mIsT 3 [("BadValue", false)] x))
  (mSeq (mIfS (mB (mIsT 3 [("BadValue", false)] x)) (mSet 4 (pur (.bl true))) mNil)
  (mSeq (mSet 2 (mTup (mCons (pur (.str (Str.ofString "other"))) (mCons (pur (.bl false)) (mCons (mVar 4) (pur []))))))
  (mIfS (mB (mIsT 3 [("BadValue", true)] x)) (mSet 2 (mTup (mCons (mXfT 3 [("BadValue", true)] "field" x) (mCons (mAndV (mIsT 3 [("BadValue", true)] x) (mIsT 3 [("BadValue", true)] x)) (mCons (mVar 4) (pur [])))))) mNil)))))
  (mRet (mVar 2))))
def m_law_refused : List D → Option Ans := runP 5 g_law_refused
theorem ok_law_refused (T : Txt P w K mg) : FnOk P w K mg base (CXX P w) 6 T.f_law_refused T.d_law_refused ["way", "row"] (SpP K 2 m_law_refused) := by
  exact fn_P (g := g_law_refused) T.F_law_refused sc_law_refused (fun cdv A outer s H E C hA hr tk => (ss_cons (st_set (fun _ p => ps_set (i := 2) sc_law_refused.nd rfl (by first | exact Or.inl rfl | exact Or.inr rfl) p) (ev_tup (ea_cons ev_str (ea_cons ev_bl (ea_cons ev_bl ea_nil)))))
      (ss_cons (st_try (tbl := [("BadValue", true)]) hA rfl rfl sc_law_refused.nd rfl rfl ⟨by rfl, by decide, .inl T.gC_EaselError⟩ tk (tbl_cons T.nC_BadValue T.em_BadValue_EaselError tbl_nil) (fun W1 pn xe tk1 => (ss_cons (st_if (te_cmp op_eq (nomark _) vop_eqS (ev_var 0 (pv 0)) ev_str) (ss_one (st_expr (cl_make T.mk_Curve (ok_Curve_init T) tk1 (hr.mono (by decide)) (by rfl) T.gC_Curve T.nC_Curve T.b_Curve_init (ea_cons (ev_var 1 (pv 1)) ea_nil)))) ss_nil)
      (ss_cons (st_if (te_cmp op_eq (nomark _) vop_eqS (ev_var 0 (pv 0)) ev_str) (ss_one (st_expr (ev_stat (pe_glob (v := .ref T.C_Curve) (by rfl) T.gC_Curve rfl) T.sc_Curve_levels (ok_Curve_levels T) tk1 hr T.b_Curve_levels (ea_cons (ev_item (fun _ _ => rfl) (ev_var 1 (pv 1)) ev_int) (ea_cons (ev_item (fun _ _ => rfl) (ev_var 1 (pv 1)) ev_int) (ea_cons (ev_item (fun _ _ => rfl) (ev_var 1 (pv 1)) ev_int) (ea_cons (ev_item (fun _ _ => rfl) (ev_var 1 (pv 1)) ev_int) ea_nil))))))) ss_nil)
      (ss_one (st_if (te_cmp op_eq (nomark _) vop_eqS (ev_var 0 (pv 0)) ev_str) (ss_one (st_expr (ev_stat (pe_glob (v := .ref T.C_Curve) (by rfl) T.gC_Curve rfl) T.sc_Curve_threshold (ok_Curve_threshold T) tk1 hr T.b_Curve_threshold (ea_cons (ev_var 1 (pv 1)) ea_nil)))) ss_nil))))) (fun a oe cls d pn C1 x hxa hA1 hX hz hf => (ss_cons (st_set (fun _ p => ps_set (i := 4) sc_law_refused.nd rfl (by first | exact Or.inl rfl | exact Or.inr rfl) p) (ev_isTT (i := 3) (tbl := [("BadValue", false)]) (cs := [T.C_NoLayer, T.C_BadPlace, T.C_NoChange, T.C_Taken, T.C_TooLarge, T.C_Singular, T.C_EndlessRegion].map V.ref) (us := [T.C_NoLayer, T.C_BadPlace, T.C_NoChange, T.C_Taken, T.C_TooLarge, T.C_Singular, T.C_EndlessRegion].map Value.ref) hxa hA1 hX hz hf (tbl_cons T.nC_BadValue ⟨T.X_BadValue, T.ks_BadValue_NoLayer_BadPlace_NoChange_Taken_TooLarge_Singular_EndlessRegion⟩ tbl_nil) (vals_refs [T.C_NoLayer, T.C_BadPlace, T.C_NoChange, T.C_Taken, T.C_TooLarge, T.C_Singular, T.C_EndlessRegion]) (by simp; decide) (pa_cons (pv 3) (pa_cons (pe_tup (pa_cons (pe_glob (v := .ref T.C_NoLayer) (by rfl) T.gC_NoLayer rfl) (pa_cons (pe_glob (v := .ref T.C_BadPlace) (by rfl) T.gC_BadPlace rfl) (pa_cons (pe_glob (v := .ref T.C_NoChange) (by rfl) T.gC_NoChange rfl) (pa_cons (pe_glob (v := .ref T.C_Taken) (by rfl) T.gC_Taken rfl) (pa_cons (pe_glob (v := .ref T.C_TooLarge) (by rfl) T.gC_TooLarge rfl) (pa_cons (pe_glob (v := .ref T.C_Singular) (by rfl) T.gC_Singular rfl) (pa_cons (pe_glob (v := .ref T.C_EndlessRegion) (by rfl) T.gC_EndlessRegion rfl) pa_nil)))))))) pa_nil)) (fun _ _ _ h => h) (fun _ _ hc p => pe_callB hc (by rfl) T.z_isinstance (by decide +kernel) p)))
      (ss_cons (st_if (te_val (ev_isTT (i := 3) (tbl := [("BadValue", false)]) (cs := [T.C_HistoryError, T.C_LineError, T.C_FileError].map V.ref) (us := [T.C_HistoryError, T.C_LineError, T.C_FileError].map Value.ref) hxa hA1 hX hz hf (tbl_cons T.nC_BadValue ⟨T.X_BadValue, T.ks_BadValue_HistoryError_LineError_FileError⟩ tbl_nil) (vals_refs [T.C_HistoryError, T.C_LineError, T.C_FileError]) (by simp; decide) (pa_cons (pv 3) (pa_cons (pe_tup (pa_cons (pe_glob (v := .ref T.C_HistoryError) (by rfl) T.gC_HistoryError rfl) (pa_cons (pe_glob (v := .ref T.C_LineError) (by rfl) T.gC_LineError rfl) (pa_cons (pe_glob (v := .ref T.C_FileError) (by rfl) T.gC_FileError rfl) pa_nil)))) pa_nil)) (fun _ _ _ h => h) (fun _ _ hc p => pe_callB hc (by rfl) T.z_isinstance (by decide +kernel) p))) (ss_one (st_set (fun _ p => ps_set (i := 4) sc_law_refused.nd rfl (by first | exact Or.inl rfl | exact Or.inr rfl) p) ev_bl)) ss_nil)
      (ss_cons (st_set (fun _ p => ps_set (i := 2) sc_law_refused.nd rfl (by first | exact Or.inl rfl | exact Or.inr rfl) p) (ev_tup (ea_cons ev_str (ea_cons ev_bl (ea_cons (ev_var 4 (pv 4)) ea_nil)))))
      (ss_one (st_if (te_val (ev_isT1 (i := 3) (tbl := [("BadValue", true)]) (v := .ref T.C_BadValue) (cv := (.ref T.C_BadValue)) hxa hA1 hX hz hf (tbl_cons T.nC_BadValue ⟨T.X_BadValue, T.ki_BadValue_BadValue⟩ tbl_nil) (fun _ h => h) (pa_cons (pv 3) (pa_cons (pe_glob (v := .ref T.C_BadValue) (by rfl) T.gC_BadValue rfl) pa_nil)) (fun _ _ hc p => pe_callB hc (by rfl) T.z_isinstance (by decide +kernel) p))) (ss_one (st_set (fun _ p => ps_set (i := 2) sc_law_refused.nd rfl (by first | exact Or.inl rfl | exact Or.inr rfl) p) (ev_tup (ea_cons (ev_xfT (i := 3) (tbl := [("BadValue", true)]) hxa hA1 hX hz hf (tbl_cons T.nC_BadValue T.xf_BadValue_field tbl_nil) (pv 3)) (ea_cons (ev_and (ev_isT1 (i := 3) (tbl := [("BadValue", true)]) (v := .ref T.C_DeedError) (cv := (.ref T.C_DeedError)) hxa hA1 hX hz hf (tbl_cons T.nC_BadValue ⟨T.X_BadValue, T.ki_BadValue_DeedError⟩ tbl_nil) (fun _ h => h) (pa_cons (pv 3) (pa_cons (pe_glob (v := .ref T.C_DeedError) (by rfl) T.gC_DeedError rfl) pa_nil)) (fun _ _ hc p => pe_callB hc (by rfl) T.z_isinstance (by decide +kernel) p)) (ev_one (ev_isT1 (i := 3) (tbl := [("BadValue", true)]) (v := .ty "ValueError") (cv := (.type "ValueError")) hxa hA1 hX hz hf (tbl_cons T.nC_BadValue ⟨T.X_BadValue, T.ki_BadValue_ValueError⟩ tbl_nil) (fun _ h => h) (pa_cons (pv 3) (pa_cons (pe_bltn (v := .ty "ValueError") (by rfl) T.z_ValueError (by decide +kernel) rfl) pa_nil)) (fun _ _ hc p => pe_callB hc (by rfl) T.z_isinstance (by decide +kernel) p)))) (ea_cons (ev_var 4 (pv 4)) ea_nil)))))) ss_nil)))))))
      (ss_one (st_ret (ev_var 2 (pv 2))))))) (fun _ _ _ h => h)
def bd_law_likes_1 : Mo D := (mVar 9)
def bd_law_likes_2 : Mo (List D) := (mLc [9] (bnd (mCons (mOp DL.gSub (mLenN 2) (pur (.int 1))) (pur [])) fun ds => lft (rng1 ds)) (gdName 9) (mB (mOp gLt (mOp gAdd (mOp gIx (mOp gIx (mVar 2) (mVar 9)) (pur (.int 0))) (pur (.int 1))) (mOp gIx (mOp gIx (mVar 2) (mOp gAdd (mVar 9) (pur (.int 1)))) (pur (.int 0))))) bd_law_likes_1)
def bd_law_likes_3 : Mo D := (mVar 9)
def bd_law_likes_4 : Mo (List D) := (mLc [9] (bnd (mCons (pur (.int 1)) (mCons (mOp DL.gSub (mLenN 2) (pur (.int 1))) (pur []))) fun ds => lft (rng2 ds)) (gdName 9) (mB (mOp gLt (mOp gAdd (mOp gIx (mOp gIx (mVar 2) (mVar 9)) (pur (.int 0))) (pur (.int 1))) (mOp gIx (mOp gIx (mVar 2) (mOp gAdd (mVar 9) (pur (.int 1)))) (pur (.int 0))))) bd_law_likes_3)
def bd_law_likes_5 : MoS := (mPut 8 (mTup (mCons (mOp gAdd (mOp gIx (mOp gIx (mVar 2) (mVar 9)) (pur (.int 0))) (pur (.int 1))) (mCons (mOp gIx (mOp gIx (mVar 2) (mVar 9)) (pur (.int 1))) (pur [])))) (mVar 9))
def g_law_likes : MoS := (mSeq (mSet 3 (mFnQ 0 2 m_law_take (mCons (mLenN 2) (pur []))))
  (mSeq (mSetO 4 (mListO (mCons (mVar 2) (pur []))))
  (mSeq (mPut 4 (mTup (mCons (mOp gIx (mOp gIx (mVar 2) (mVar 3)) (pur (.int 0))) (mCons (mOp gMod (mCall (gOne gInt) (mCons (mOp gAdd (mOp gAdd (mOp gIx (mOp gIx (mVar 2) (mVar 3)) (pur (.int 1))) (pur (.int 1))) (mFnQ 0 2 m_law_take (mCons (pur (.int 255)) (pur [])))) (pur []))) (pur (.int 256))) (pur [])))) (mVar 3))
  (mSeq (mIfS (mOr (mNot (mB (mFn 2 m_law_same (mCons (mEqO "Curve" m_Curve_eq (mVar 1) (mMake "Curve" 2 m_Curve_init (mCons (mCall (gOne gTuple) (mCons (mCall (gOne gList) (mCons (mVar 2) (pur []))) (pur []))) (pur [])))) (mCons (pur (.bl true)) (pur [])))))) (mNot (mB (mFn 2 m_law_same (mCons (mEqO "Curve" m_Curve_eq (mVar 1) (mVar 2)) (mCons (pur (.bl false)) (pur []))))))) (mRet (pur (.bl false))) mNil)
  (mSeq (mIfS (mOr (mNot (mB (mFn 2 m_law_same (mCons (mEqO "Curve" m_Curve_eq (mVar 1) (mMake "Curve" 2 m_Curve_init (mCons (mCall (gOne gTuple) (mCons (mVar 4) (pur []))) (pur [])))) (mCons (pur (.bl false)) (pur [])))))) (mNot (mB (mFn 2 m_law_same (mCons (mEqO "Curve" m_Curve_eq (mMake "Curve" 2 m_Curve_init (mCons (mCall (gOne gTuple) (mCons (mVar 4) (pur []))) (pur []))) (mVar 1)) (mCons (pur (.bl false)) (pur []))))))) (mRet (pur (.bl false))) mNil)
  (mSeq (mSetO 5 (mListO (mCons (mVar 2) (pur []))))
  (mSeq (mIfS (mB (mOp gEqS (mLenN 5) (pur (.int 16)))) (mDrop (mPopAt 5 (pur (.int 1)))) (mSeq (mSetO 6 bd_law_likes_2)
  (mIns 5 (mCons (mOp gAdd (mItemN 6 (pur (.int 0))) (pur (.int 1))) (mCons (mTup (mCons (mOp gAdd (mOp gIx (mOp gIx (mVar 2) (mItemN 6 (pur (.int 0)))) (pur (.int 0))) (pur (.int 1))) (mCons (mOp gIx (mOp gIx (mVar 2) (mItemN 6 (pur (.int 0)))) (pur (.int 1))) (pur [])))) (pur []))))))
  (mSeq (mSetO 7 bd_law_likes_4)
  (mSeq (mSetO 8 (mListO (mCons (mVar 2) (pur []))))
  (mSeq (mFor (bnd (mSl gSlL (mVar 7) (pur none) (bnd (pur (.int 1)) fun d => lft ((asI d).map some))) fun d => lft (lstOf d)) (gdName 9) bd_law_likes_5)
  (mSeq (mIfS (mNot (mB (mFn 2 m_law_same (mCons (mEqO "Curve" m_Curve_eq (mVar 1) (mMake "Curve" 2 m_Curve_init (mCons (mCall (gOne gTuple) (mCons (mVar 8) (pur []))) (pur [])))) (mCons (mOp gEqS (mLenN 7) (pur (.int 0))) (pur [])))))) (mRet (pur (.bl false))) mNil)
  (mRet (mFn 2 m_law_same (mCons (mEqO "Curve" m_Curve_eq (mVar 1) (mMake "Curve" 2 m_Curve_init (mCons (mCall (gOne gTuple) (mCons (mVar 5) (pur []))) (pur [])))) (mCons (pur (.bl false)) (pur []))))))))))))))))
def m_law_likes : List D → List D → Option (Ans × List D) := runQ 10 g_law_likes
theorem ok_law_likes (T : Txt P w K mg) : FnOk P w K mg base (CXX P w) 6 T.f_law_likes T.d_law_likes ["pool", "curve", "points"] (SpQ K 3 m_law_likes) := by
  exact fn_Q (g := g_law_likes) T.F_law_likes sc_law_likes (fun cdv A outer s H E C hr tk => (ss_cons (st_set (fun _ p => ps_set (i := 3) sc_law_likes.nd rfl (by first | exact Or.inl rfl | exact Or.inr rfl) p) (cl_fnQ (ok_law_take T) tk (hr.mono (by decide)) (by rfl) T.m_law_take T.F_law_take.kp T.b_law_take (pv 0) (ea_cons (ev_lenN (i := 2) (pe_callB call_len (by rfl) T.z_len PySem.boot_len (pa_cons (pv 2) pa_nil))) ea_nil)))
      (ss_cons (st_setO (fun _ p => ps_set (i := 4) sc_law_likes.nd rfl (by first | exact Or.inl rfl | exact Or.inr rfl) p) (eo_list (ea_cons (ev_var 2 (pv 2)) ea_nil) fun _ p => pe_callTy call_list_of (by rfl) T.z_list (by decide +kernel) p))
      (ss_cons (st_put (i := 4) (fun _ _ p q => ps_asg p (pg_sub (pv 4) q set_list)) (ev_tup (ea_cons (ev_item (fun _ _ => rfl) (ev_item (fun _ _ => rfl) (ev_var 2 (pv 2)) (ev_var 3 (pv 3))) ev_int) (ea_cons (ev_mod (ev_cb vc_int (ea_cons (ev_add (ev_add (ev_item (fun _ _ => rfl) (ev_item (fun _ _ => rfl) (ev_var 2 (pv 2)) (ev_var 3 (pv 3))) ev_int) ev_int) (cl_fnQ (ok_law_take T) tk (hr.mono (by decide)) (by rfl) T.m_law_take T.F_law_take.kp T.b_law_take (pv 0) (ea_cons ev_int ea_nil))) ea_nil) fun _ p => pe_callTy call_int1 (by rfl) T.z_int (by decide +kernel) p) ev_int) ea_nil))) (ev_var 3 (pv 3)))
      (ss_cons (st_if (te_w (tw_or (te_not (te_val (cl_fn (ok_law_same T) tk (hr.mono (by decide)) (by rfl) T.m_law_same T.F_law_same.kp T.b_law_same (ea_cons (ev_eqO ⟨T.is_Curve, T.oe_Curve.1, T.oe_Curve.2, ok_Curve_eq T, T.b_Curve_eq⟩ hr.units0 tk hr (ev_var 1 (pv 1)) (cl_make T.mk_Curve (ok_Curve_init T) tk (hr.mono (by decide)) (by rfl) T.gC_Curve T.nC_Curve T.b_Curve_init (ea_cons (ev_cb vc_tuple (ea_cons (ev_cb vc_list (ea_cons (ev_var 2 (pv 2)) ea_nil) fun _ p => pe_callTy call_list_of (by rfl) T.z_list (by decide +kernel) p) ea_nil) fun _ p => pe_callTy call_tuple_of (by rfl) T.z_tuple (by decide +kernel) p) ea_nil))) (ea_cons ev_bl ea_nil))))) (tw_or1 (te_not (te_val (cl_fn (ok_law_same T) tk (hr.mono (by decide)) (by rfl) T.m_law_same T.F_law_same.kp T.b_law_same (ea_cons (ev_eqO ⟨T.is_Curve, T.oe_Curve.1, T.oe_Curve.2, ok_Curve_eq T, T.b_Curve_eq⟩ hr.units0 tk hr (ev_var 1 (pv 1)) (ev_var 2 (pv 2))) (ea_cons ev_bl ea_nil)))))))) (ss_one (st_ret ev_bl)) ss_nil)
      (ss_cons (st_if (te_w (tw_or (te_not (te_val (cl_fn (ok_law_same T) tk (hr.mono (by decide)) (by rfl) T.m_law_same T.F_law_same.kp T.b_law_same (ea_cons (ev_eqO ⟨T.is_Curve, T.oe_Curve.1, T.oe_Curve.2, ok_Curve_eq T, T.b_Curve_eq⟩ hr.units0 tk hr (ev_var 1 (pv 1)) (cl_make T.mk_Curve (ok_Curve_init T) tk (hr.mono (by decide)) (by rfl) T.gC_Curve T.nC_Curve T.b_Curve_init (ea_cons (ev_cb vc_tuple (ea_cons (ev_var 4 (pv 4)) ea_nil) fun _ p => pe_callTy call_tuple_of (by rfl) T.z_tuple (by decide +kernel) p) ea_nil))) (ea_cons ev_bl ea_nil))))) (tw_or1 (te_not (te_val (cl_fn (ok_law_same T) tk (hr.mono (by decide)) (by rfl) T.m_law_same T.F_law_same.kp T.b_law_same (ea_cons (ev_eqO ⟨T.is_Curve, T.oe_Curve.1, T.oe_Curve.2, ok_Curve_eq T, T.b_Curve_eq⟩ hr.units0 tk hr (cl_make T.mk_Curve (ok_Curve_init T) tk (hr.mono (by decide)) (by rfl) T.gC_Curve T.nC_Curve T.b_Curve_init (ea_cons (ev_cb vc_tuple (ea_cons (ev_var 4 (pv 4)) ea_nil) fun _ p => pe_callTy call_tuple_of (by rfl) T.z_tuple (by decide +kernel) p) ea_nil)) (ev_var 1 (pv 1))) (ea_cons ev_bl ea_nil)))))))) (ss_one (st_ret ev_bl)) ss_nil)
      (ss_cons (st_setO (fun _ p => ps_set (i := 5) sc_law_likes.nd rfl (by first | exact Or.inl rfl | exact Or.inr rfl) p) (eo_list (ea_cons (ev_var 2 (pv 2)) ea_nil) fun _ p => pe_callTy call_list_of (by rfl) T.z_list (by decide +kernel) p))
      (ss_cons (st_if (te_cmp op_eq (nomark _) vop_eqS (ev_lenN (i := 5) (pe_callB call_len (by rfl) T.z_len PySem.boot_len (pa_cons (pv 5) pa_nil))) ev_int) (ss_one (st_expr (ev_popAt (i := 5) (fun _ p => pe_bm PySem.F.plainAttrs_list PySem.F.slot_list_pop PySem.F.type_list_pop mt_popAt (pv 5) (pa_cons p pa_nil)) ev_int))) (ss_cons (st_lc (i := 6) (own := [("k", 9)]) rfl sc_law_likes.nd rfl rfl (sw_true rfl rfl rfl (by decide +kernel)) (ei_range1 (ea_cons (ev_sub (ev_lenN (i := 2) (pe_callB call_len (by rfl) T.z_len PySem.boot_len (pa_cons (pv 2) pa_nil))) ev_int) ea_nil) fun _ p => pi_range1 (by rfl) T.z_range p) (blkOk_by (own := [("k", 9)]) (N := N_law_likes) (sc := defScope s_law_likes) (by decide +kernel)) (fun _ _ _ _ _ => (pg_name (i := 9) sc_law_likes.nd rfl (by first | exact Or.inl rfl | exact Or.inr rfl))) (sg_name (i := 9)) (fun _ _ _ _ _ => (pt_oneD (te_cmp op_lt (nomark _) (vop_I0 fun _ _ _ => .bl _) (ev_add (ev_item (fun _ _ => rfl) (ev_item (fun _ _ => rfl) (ev_var 2 (pv 2)) (ev_var 9 (pv 9))) ev_int) ev_int) (ev_item (fun _ _ => rfl) (ev_item (fun _ _ => rfl) (ev_var 2 (pv 2)) (ev_add (ev_var 9 (pv 9)) ev_int)) ev_int)))) (fun _ _ _ _ _ => (ev_var 9 (pv 9))) (by decide) (by decide))
      (ss_one (st_ins (i := 5) (fun _ p => ps_expr (pe_bm PySem.F.plainAttrs_list PySem.F.slot_list_insert PySem.F.type_list_insert mt_ins (pv 5) p)) (ea_cons (ev_add (ev_itemN 6 (fun _ _ => rfl) ev_int fun _ _ q => pe_ix ix_seq (pv 6) q (fun _ _ => rfl)) ev_int) (ea_cons (ev_tup (ea_cons (ev_add (ev_item (fun _ _ => rfl) (ev_item (fun _ _ => rfl) (ev_var 2 (pv 2)) (ev_itemN 6 (fun _ _ => rfl) ev_int fun _ _ q => pe_ix ix_seq (pv 6) q (fun _ _ => rfl))) ev_int) ev_int) (ea_cons (ev_item (fun _ _ => rfl) (ev_item (fun _ _ => rfl) (ev_var 2 (pv 2)) (ev_itemN 6 (fun _ _ => rfl) ev_int fun _ _ q => pe_ix ix_seq (pv 6) q (fun _ _ => rfl))) ev_int) ea_nil))) ea_nil))))))
      (ss_cons (st_lc (i := 7) (own := [("k", 9)]) rfl sc_law_likes.nd rfl rfl (sw_true rfl rfl rfl (by decide +kernel)) (ei_range2 (ea_cons ev_int (ea_cons (ev_sub (ev_lenN (i := 2) (pe_callB call_len (by rfl) T.z_len PySem.boot_len (pa_cons (pv 2) pa_nil))) ev_int) ea_nil)) fun _ p => pi_range2 (by rfl) T.z_range p) (blkOk_by (own := [("k", 9)]) (N := N_law_likes) (sc := defScope s_law_likes) (by decide +kernel)) (fun _ _ _ _ _ => (pg_name (i := 9) sc_law_likes.nd rfl (by first | exact Or.inl rfl | exact Or.inr rfl))) (sg_name (i := 9)) (fun _ _ _ _ _ => (pt_oneD (te_cmp op_lt (nomark _) (vop_I0 fun _ _ _ => .bl _) (ev_add (ev_item (fun _ _ => rfl) (ev_item (fun _ _ => rfl) (ev_var 2 (pv 2)) (ev_var 9 (pv 9))) ev_int) ev_int) (ev_item (fun _ _ => rfl) (ev_item (fun _ _ => rfl) (ev_var 2 (pv 2)) (ev_add (ev_var 9 (pv 9)) ev_int)) ev_int)))) (fun _ _ _ _ _ => (ev_var 9 (pv 9))) (by decide) (by decide))
      (ss_cons (st_setO (fun _ p => ps_set (i := 8) sc_law_likes.nd rfl (by first | exact Or.inl rfl | exact Or.inr rfl) p) (eo_list (ea_cons (ev_var 2 (pv 2)) ea_nil) fun _ p => pe_callTy call_list_of (by rfl) T.z_list (by decide +kernel) p))
      (ss_cons (st_for (ei_list (ev_sl sl_list vsl_list (ev_var 7 (pv 7)) eo_none (eo_some ev_int))) (ss_one (st_put (i := 8) (fun _ _ p q => ps_asg p (pg_sub (pv 8) q set_list)) (ev_tup (ea_cons (ev_add (ev_item (fun _ _ => rfl) (ev_item (fun _ _ => rfl) (ev_var 2 (pv 2)) (ev_var 9 (pv 9))) ev_int) ev_int) (ea_cons (ev_item (fun _ _ => rfl) (ev_item (fun _ _ => rfl) (ev_var 2 (pv 2)) (ev_var 9 (pv 9))) ev_int) ea_nil))) (ev_var 9 (pv 9)))) (sg_name (i := 9)) fun _ _ p q => ps_for (passes_of rfl) rfl p (pg_name (i := 9) sc_law_likes.nd rfl (by first | exact Or.inl rfl | exact Or.inr rfl)) q)
      (ss_cons (st_if (te_not (te_val (cl_fn (ok_law_same T) tk (hr.mono (by decide)) (by rfl) T.m_law_same T.F_law_same.kp T.b_law_same (ea_cons (ev_eqO ⟨T.is_Curve, T.oe_Curve.1, T.oe_Curve.2, ok_Curve_eq T, T.b_Curve_eq⟩ hr.units0 tk hr (ev_var 1 (pv 1)) (cl_make T.mk_Curve (ok_Curve_init T) tk (hr.mono (by decide)) (by rfl) T.gC_Curve T.nC_Curve T.b_Curve_init (ea_cons (ev_cb vc_tuple (ea_cons (ev_var 8 (pv 8)) ea_nil) fun _ p => pe_callTy call_tuple_of (by rfl) T.z_tuple (by decide +kernel) p) ea_nil))) (ea_cons (ev_eqS (ev_lenN (i := 7) (pe_callB call_len (by rfl) T.z_len PySem.boot_len (pa_cons (pv 7) pa_nil))) ev_int) ea_nil))))) (ss_one (st_ret ev_bl)) ss_nil)
      (ss_one (st_ret (cl_fn (ok_law_same T) tk (hr.mono (by decide)) (by rfl) T.m_law_same T.F_law_same.kp T.b_law_same (ea_cons (ev_eqO ⟨T.is_Curve, T.oe_Curve.1, T.oe_Curve.2, ok_Curve_eq T, T.b_Curve_eq⟩ hr.units0 tk hr (ev_var 1 (pv 1)) (cl_make T.mk_Curve (ok_Curve_init T) tk (hr.mono (by decide)) (by rfl) T.gC_Curve T.nC_Curve T.b_Curve_init (ea_cons (ev_cb vc_tuple (ea_cons (ev_var 5 (pv 5)) ea_nil) fun _ p => pe_callTy call_tuple_of (by rfl) T.z_tuple (by decide +kernel) p) ea_nil))) (ea_cons ev_bl ea_nil))))))))))))))))) (fun _ _ _ _ h => h)
def bd_law_makers_1 : MoS := (mIfS (mOr (mNot (mB (mFn 2 m_law_same (mCons (mCallO "Curve" 2 m_Curve_call (mVar 5) (mCons (mVar 8) (pur []))) (mCons (mVar 8) (pur [])))))) (mOr (mNot (mB (mFn 2 m_law_same (mCons (mCallO "Curve" 2 m_Curve_call (mVar 6) (mCons (mVar 8) (pur []))) (mCons (mOp DL.gSub (pur (.int 255)) (mVar 8)) (pur [])))))) (mNot (mB (mFn 2 m_law_same (mCons (mCallO "Curve" 2 m_Curve_call (mVar 7) (mCons (mVar 8) (pur []))) (mCons (mIf (mB (mOp gLt (mVar 8) (mVar 2))) (pur (.int 0)) (pur (.int 255))) (pur [])))))))) (mRet (pur (.bl false))) mNil)
def g_law_makers : MoS := (mSeq (mIfS (mOr (mNot (mB (mFn 2 m_law_is (mCons (mFn 0 m_Curve_identity (pur [])) (mCons (mTup (mCons (mTup (mCons (pur (.int 0)) (mCons (pur (.int 0)) (pur [])))) (mCons (mTup (mCons (pur (.int 255)) (mCons (pur (.int 255)) (pur [])))) (pur [])))) (pur [])))))) (mNot (mB (mFn 2 m_law_is (mCons (mFn 0 m_Curve_inverted (pur [])) (mCons (mTup (mCons (mTup (mCons (pur (.int 0)) (mCons (pur (.int 255)) (pur [])))) (mCons (mTup (mCons (pur (.int 255)) (mCons (pur (.int 0)) (pur [])))) (pur [])))) (pur []))))))) (mRet (pur (.bl false))) mNil)
  (mSeq (mSet 3 (mTup (mCons (mTup (mCons (pur (.int 0)) (mCons (mOp gIx (mVar 1) (pur (.int 2))) (pur [])))) (mCons (mTup (mCons (mOp gIx (mVar 1) (pur (.int 0))) (mCons (mOp gIx (mVar 1) (pur (.int 2))) (pur [])))) (mCons (mTup (mCons (mOp gIx (mVar 1) (pur (.int 1))) (mCons (mOp gIx (mVar 1) (pur (.int 3))) (pur [])))) (mCons (mTup (mCons (pur (.int 255)) (mCons (mOp gIx (mVar 1) (pur (.int 3))) (pur [])))) (pur [])))))))
  (mSeq (mIfS (mNot (mB (mFn 2 m_law_is (mCons (mFn 4 m_Curve_levels (mCons (mOp gIx (mVar 1) (pur (.int 0))) (mCons (mOp gIx (mVar 1) (pur (.int 1))) (mCons (mOp gIx (mVar 1) (pur (.int 2))) (mCons (mOp gIx (mVar 1) (pur (.int 3))) (pur [])))))) (mCons (mVar 3) (pur [])))))) (mRet (pur (.bl false))) mNil)
  (mSeq (mIfS (mNot (mB (mFn 2 m_law_line (mCons (mFn 4 m_Curve_levels (mCons (mOp gIx (mVar 1) (pur (.int 0))) (mCons (mOp gIx (mVar 1) (pur (.int 1))) (mCons (mOp gIx (mVar 1) (pur (.int 2))) (mCons (mOp gIx (mVar 1) (pur (.int 3))) (pur [])))))) (mCons (mVar 3) (pur [])))))) (mRet (pur (.bl false))) mNil)
  (mSeq (mSetO 4 (mLstO (mCons (mTup (mCons (pur (.int 0)) (mCons (pur (.int 0)) (pur [])))) (pur []))))
  (mSeq (mIfS (mB (mOp gGt (mVar 2) (pur (.int 1)))) (mApp 4 (mTup (mCons (mOp DL.gSub (mVar 2) (pur (.int 1))) (mCons (pur (.int 0)) (pur []))))) mNil)
  (mSeq (mApp 4 (mTup (mCons (mVar 2) (mCons (pur (.int 255)) (pur [])))))
  (mSeq (mIfS (mB (mOp gLt (mVar 2) (pur (.int 255)))) (mApp 4 (mTup (mCons (pur (.int 255)) (mCons (pur (.int 255)) (pur []))))) mNil)
  (mSeq (mIfS (mNot (mB (mFn 2 m_law_is (mCons (mFn 1 m_Curve_threshold (mCons (mVar 2) (pur []))) (mCons (mCall (gOne gTuple) (mCons (mVar 4) (pur []))) (pur [])))))) (mRet (pur (.bl false))) mNil)
  (mSeq (mSet 5 (mFn 0 m_Curve_identity (pur [])))
  (mSeq (mSet 6 (mFn 0 m_Curve_inverted (pur [])))
  (mSeq (mSet 7 (mFn 1 m_Curve_threshold (mCons (mVar 2) (pur []))))
  (mSeq (mFor (bnd (mTup (mCons (pur (.int 0)) (mCons (pur (.int 255)) (mCons (mOp DL.gSub (mVar 2) (pur (.int 1))) (mCons (mVar 2) (mCons (mFnQ 0 2 m_law_take (mCons (pur (.int 256)) (pur []))) (mCons (mFnQ 0 2 m_law_take (mCons (pur (.int 256)) (pur []))) (pur [])))))))) fun d => lft (tupOf d)) (gdName 8) bd_law_makers_1)
  (mRet (pur (.bl true))))))))))))))))
def m_law_makers : List D → List D → Option (Ans × List D) := runQ 9 g_law_makers
theorem ok_law_makers (T : Txt P w K mg) : FnOk P w K mg base (CXX P w) 6 T.f_law_makers T.d_law_makers ["pool", "four", "n"] (SpQ K 3 m_law_makers) := by
  exact fn_Q (g := g_law_makers) T.F_law_makers sc_law_makers (fun cdv A outer s H E C hr tk => (ss_cons (st_if (te_w (tw_or (te_not (te_val (cl_fn (ok_law_is T) tk hr (by rfl) T.m_law_is T.F_law_is.kp T.b_law_is (ea_cons (ev_stat0 (pe_glob (v := .ref T.C_Curve) (by rfl) T.gC_Curve rfl) T.sc_Curve_identity (ok_Curve_identity T) tk hr T.b_Curve_identity) (ea_cons (ev_tup (ea_cons (ev_tup (ea_cons ev_int (ea_cons ev_int ea_nil))) (ea_cons (ev_tup (ea_cons ev_int (ea_cons ev_int ea_nil))) ea_nil))) ea_nil))))) (tw_or1 (te_not (te_val (cl_fn (ok_law_is T) tk hr (by rfl) T.m_law_is T.F_law_is.kp T.b_law_is (ea_cons (ev_stat0 (pe_glob (v := .ref T.C_Curve) (by rfl) T.gC_Curve rfl) T.sc_Curve_inverted (ok_Curve_inverted T) tk hr T.b_Curve_inverted) (ea_cons (ev_tup (ea_cons (ev_tup (ea_cons ev_int (ea_cons ev_int ea_nil))) (ea_cons (ev_tup (ea_cons ev_int (ea_cons ev_int ea_nil))) ea_nil))) ea_nil)))))))) (ss_one (st_ret ev_bl)) ss_nil)
      (ss_cons (st_set (fun _ p => ps_set (i := 3) sc_law_makers.nd rfl (by first | exact Or.inl rfl | exact Or.inr rfl) p) (ev_tup (ea_cons (ev_tup (ea_cons ev_int (ea_cons (ev_item (fun _ _ => rfl) (ev_var 1 (pv 1)) ev_int) ea_nil))) (ea_cons (ev_tup (ea_cons (ev_item (fun _ _ => rfl) (ev_var 1 (pv 1)) ev_int) (ea_cons (ev_item (fun _ _ => rfl) (ev_var 1 (pv 1)) ev_int) ea_nil))) (ea_cons (ev_tup (ea_cons (ev_item (fun _ _ => rfl) (ev_var 1 (pv 1)) ev_int) (ea_cons (ev_item (fun _ _ => rfl) (ev_var 1 (pv 1)) ev_int) ea_nil))) (ea_cons (ev_tup (ea_cons ev_int (ea_cons (ev_item (fun _ _ => rfl) (ev_var 1 (pv 1)) ev_int) ea_nil))) ea_nil))))))
      (ss_cons (st_if (te_not (te_val (cl_fn (ok_law_is T) tk hr (by rfl) T.m_law_is T.F_law_is.kp T.b_law_is (ea_cons (ev_stat (pe_glob (v := .ref T.C_Curve) (by rfl) T.gC_Curve rfl) T.sc_Curve_levels (ok_Curve_levels T) tk hr T.b_Curve_levels (ea_cons (ev_item (fun _ _ => rfl) (ev_var 1 (pv 1)) ev_int) (ea_cons (ev_item (fun _ _ => rfl) (ev_var 1 (pv 1)) ev_int) (ea_cons (ev_item (fun _ _ => rfl) (ev_var 1 (pv 1)) ev_int) (ea_cons (ev_item (fun _ _ => rfl) (ev_var 1 (pv 1)) ev_int) ea_nil))))) (ea_cons (ev_var 3 (pv 3)) ea_nil))))) (ss_one (st_ret ev_bl)) ss_nil)
      (ss_cons (st_if (te_not (te_val (cl_fn (ok_law_line T) tk (hr.mono (by decide)) (by rfl) T.m_law_line T.F_law_line.kp T.b_law_line (ea_cons (ev_stat (pe_glob (v := .ref T.C_Curve) (by rfl) T.gC_Curve rfl) T.sc_Curve_levels (ok_Curve_levels T) tk hr T.b_Curve_levels (ea_cons (ev_item (fun _ _ => rfl) (ev_var 1 (pv 1)) ev_int) (ea_cons (ev_item (fun _ _ => rfl) (ev_var 1 (pv 1)) ev_int) (ea_cons (ev_item (fun _ _ => rfl) (ev_var 1 (pv 1)) ev_int) (ea_cons (ev_item (fun _ _ => rfl) (ev_var 1 (pv 1)) ev_int) ea_nil))))) (ea_cons (ev_var 3 (pv 3)) ea_nil))))) (ss_one (st_ret ev_bl)) ss_nil)
      (ss_cons (st_setO (fun _ p => ps_set (i := 4) sc_law_makers.nd rfl (by first | exact Or.inl rfl | exact Or.inr rfl) p) (eo_lst (ea_cons (ev_tup (ea_cons ev_int (ea_cons ev_int ea_nil))) ea_nil)))
      (ss_cons (st_if (te_cmp op_gt (nomark _) (vop_I0 fun _ _ _ => .bl _) (ev_var 2 (pv 2)) ev_int) (ss_one (st_app (i := 4) (fun _ p => ps_expr (pe_bm PySem.F.plainAttrs_list PySem.F.slot_list_append PySem.F.type_list_append mt_append (pv 4) (pa_cons p pa_nil))) (ev_tup (ea_cons (ev_sub (ev_var 2 (pv 2)) ev_int) (ea_cons ev_int ea_nil))))) ss_nil)
      (ss_cons (st_app (i := 4) (fun _ p => ps_expr (pe_bm PySem.F.plainAttrs_list PySem.F.slot_list_append PySem.F.type_list_append mt_append (pv 4) (pa_cons p pa_nil))) (ev_tup (ea_cons (ev_var 2 (pv 2)) (ea_cons ev_int ea_nil))))
      (ss_cons (st_if (te_cmp op_lt (nomark _) (vop_I0 fun _ _ _ => .bl _) (ev_var 2 (pv 2)) ev_int) (ss_one (st_app (i := 4) (fun _ p => ps_expr (pe_bm PySem.F.plainAttrs_list PySem.F.slot_list_append PySem.F.type_list_append mt_append (pv 4) (pa_cons p pa_nil))) (ev_tup (ea_cons ev_int (ea_cons ev_int ea_nil))))) ss_nil)
      (ss_cons (st_if (te_not (te_val (cl_fn (ok_law_is T) tk hr (by rfl) T.m_law_is T.F_law_is.kp T.b_law_is (ea_cons (ev_stat (pe_glob (v := .ref T.C_Curve) (by rfl) T.gC_Curve rfl) T.sc_Curve_threshold (ok_Curve_threshold T) tk hr T.b_Curve_threshold (ea_cons (ev_var 2 (pv 2)) ea_nil)) (ea_cons (ev_cb vc_tuple (ea_cons (ev_var 4 (pv 4)) ea_nil) fun _ p => pe_callTy call_tuple_of (by rfl) T.z_tuple (by decide +kernel) p) ea_nil))))) (ss_one (st_ret ev_bl)) ss_nil)
      (ss_cons (st_set (fun _ p => ps_set (i := 5) sc_law_makers.nd rfl (by first | exact Or.inl rfl | exact Or.inr rfl) p) (ev_stat0 (pe_glob (v := .ref T.C_Curve) (by rfl) T.gC_Curve rfl) T.sc_Curve_identity (ok_Curve_identity T) tk hr T.b_Curve_identity))
      (ss_cons (st_set (fun _ p => ps_set (i := 6) sc_law_makers.nd rfl (by first | exact Or.inl rfl | exact Or.inr rfl) p) (ev_stat0 (pe_glob (v := .ref T.C_Curve) (by rfl) T.gC_Curve rfl) T.sc_Curve_inverted (ok_Curve_inverted T) tk hr T.b_Curve_inverted))
      (ss_cons (st_set (fun _ p => ps_set (i := 7) sc_law_makers.nd rfl (by first | exact Or.inl rfl | exact Or.inr rfl) p) (ev_stat (pe_glob (v := .ref T.C_Curve) (by rfl) T.gC_Curve rfl) T.sc_Curve_threshold (ok_Curve_threshold T) tk hr T.b_Curve_threshold (ea_cons (ev_var 2 (pv 2)) ea_nil)))
      (ss_cons (st_for (ei_tup (ev_tup (ea_cons ev_int (ea_cons ev_int (ea_cons (ev_sub (ev_var 2 (pv 2)) ev_int) (ea_cons (ev_var 2 (pv 2)) (ea_cons (cl_fnQ (ok_law_take T) tk (hr.mono (by decide)) (by rfl) T.m_law_take T.F_law_take.kp T.b_law_take (pv 0) (ea_cons ev_int ea_nil)) (ea_cons (cl_fnQ (ok_law_take T) tk (hr.mono (by decide)) (by rfl) T.m_law_take T.F_law_take.kp T.b_law_take (pv 0) (ea_cons ev_int ea_nil)) ea_nil)))))))) (ss_one (st_if (te_w (tw_or (te_not (te_val (cl_fn (ok_law_same T) tk (hr.mono (by decide)) (by rfl) T.m_law_same T.F_law_same.kp T.b_law_same (ea_cons (ev_callO T.nC_Curve T.co_Curve (ok_Curve_call T) T.b_Curve_call tk (hr.mono (by decide)) (ev_var 5 (pv 5)) (ea_cons (ev_var 8 (pv 8)) ea_nil)) (ea_cons (ev_var 8 (pv 8)) ea_nil))))) (tw_or (te_not (te_val (cl_fn (ok_law_same T) tk (hr.mono (by decide)) (by rfl) T.m_law_same T.F_law_same.kp T.b_law_same (ea_cons (ev_callO T.nC_Curve T.co_Curve (ok_Curve_call T) T.b_Curve_call tk (hr.mono (by decide)) (ev_var 6 (pv 6)) (ea_cons (ev_var 8 (pv 8)) ea_nil)) (ea_cons (ev_sub ev_int (ev_var 8 (pv 8))) ea_nil))))) (tw_or1 (te_not (te_val (cl_fn (ok_law_same T) tk (hr.mono (by decide)) (by rfl) T.m_law_same T.F_law_same.kp T.b_law_same (ea_cons (ev_callO T.nC_Curve T.co_Curve (ok_Curve_call T) T.b_Curve_call tk (hr.mono (by decide)) (ev_var 7 (pv 7)) (ea_cons (ev_var 8 (pv 8)) ea_nil)) (ea_cons (ev_if (te_cmp op_lt (nomark _) (vop_I0 fun _ _ _ => .bl _) (ev_var 8 (pv 8)) (ev_var 2 (pv 2))) ev_int ev_int) ea_nil))))))))) (ss_one (st_ret ev_bl)) ss_nil)) (sg_name (i := 8)) fun _ _ p q => ps_for (passes_of rfl) rfl p (pg_name (i := 8) sc_law_makers.nd rfl (by first | exact Or.inl rfl | exact Or.inr rfl)) q)
      (ss_one (st_ret ev_bl)))))))))))))))) (fun _ _ _ _ h => h)
def g_law : MoS := (mSeq (mSetO 1 (mFnO 3 m_law_pool (mCons (mVar 0) (mCons (pur (.int 3)) (mCons (pur (.int 40)) (pur []))))))
  (mSeq (mSet 2 (mFnQ 1 1 m_law_points (pur [])))
  (mSeq (mSet 3 (mFnQ 1 1 m_law_levels (pur [])))
  (mSeq (mSet 4 (mIf (mB (mOp gEqS (mFnQ 1 2 m_law_take (mCons (pur (.int 3)) (pur []))) (pur (.int 2)))) (mFnQ 1 2 m_law_pick (mCons (mTup (mCons (pur (.int 1)) (mCons (pur (.int 255)) (mCons (pur (.int 2)) (mCons (pur (.int 254)) (pur [])))))) (pur []))) (mOp gAdd (pur (.int 1)) (mFnQ 1 2 m_law_take (mCons (pur (.int 255)) (pur []))))))
  (mSeq (mSet 5 (mMake "Curve" 2 m_Curve_init (mCons (mVar 2) (pur []))))
  (mSeq (mIfS (mOr (mNot (mB (mFn 2 m_law_is (mCons (mVar 5) (mCons (mVar 2) (pur [])))))) (mOr (mNot (mB (mFn 2 m_law_line (mCons (mVar 5) (mCons (mVar 2) (pur [])))))) (mNot (mB (mFn 2 m_law_rises (mCons (mVar 5) (mCons (mVar 2) (pur [])))))))) (mRet (pur (.bl false))) mNil)
  (mSeq (mIfS (mOr (mNot (mB (mFnQ 1 3 m_law_likes (mCons (mVar 5) (mCons (mVar 2) (pur [])))))) (mNot (mB (mFnQ 1 3 m_law_makers (mCons (mVar 3) (mCons (mVar 4) (pur []))))))) (mRet (pur (.bl false))) mNil)
  (mSeq (mIfS (mB (mOp gNe (mFn 2 m_law_refused (mCons (pur (.str (Str.ofString "points"))) (mCons (mFnQ 1 2 m_law_faulty (mCons (mVar 2) (pur []))) (pur [])))) (mTup (mCons (pur (.str (Str.ofString "points"))) (mCons (pur (.bl true)) (mCons (pur (.bl false)) (pur []))))))) (mRet (pur (.bl false))) mNil)
  (mSeq (mIfS (mB (mOp gNe (mFn 2 m_law_refused (mCons (pur (.str (Str.ofString "levels"))) (mCons (mFnQ 1 2 m_law_off (mCons (mVar 3) (pur []))) (pur [])))) (mTup (mCons (pur (.str (Str.ofString "levels"))) (mCons (pur (.bl true)) (mCons (pur (.bl false)) (pur []))))))) (mRet (pur (.bl false))) mNil)
  (mSeq (mIfS (mB (mOp gNe (mFn 2 m_law_refused (mCons (pur (.str (Str.ofString "threshold"))) (mCons (mFnQ 1 2 m_law_pick (mCons (mTup (mCons (pur (.int 0)) (mCons (pur (.int 256)) (mCons (mUn gNeg (pur (.int 1))) (mCons (mOp gPow (pur (.int 10)) (pur (.int 20))) (mCons (mUn gNeg (mOp gPow (pur (.int 10)) (pur (.int 20)))) (pur []))))))) (pur []))) (pur [])))) (mTup (mCons (pur (.str (Str.ofString "threshold"))) (mCons (pur (.bl true)) (mCons (pur (.bl false)) (pur []))))))) (mRet (pur (.bl false))) mNil)
  (mRet (mAndV (mFn 2 m_law_is (mCons (mVar 5) (mCons (mVar 2) (pur [])))) (mFn 2 m_law_same (mCons (mCallO "Curve" 2 m_Curve_call (mVar 5) (mCons (mOp gIx (mOp gIx (mVar 2) (mUn gNeg (pur (.int 2)))) (pur (.int 0))) (pur []))) (mCons (mOp gIx (mOp gIx (mVar 2) (mUn gNeg (pur (.int 2)))) (pur (.int 1))) (pur []))))))))))))))))
theorem ok8 {x y : Int} (h1 : 0 ≤ x) (h2 : x < 100000) (h3 : 0 ≤ y) (h4 : y < 100000) : mulOk x y = true := mulOk_small (by omega) (by omega)
theorem atI0 (ds : List D) : atI ds 0 = ds[0]? := by
  cases ds with
  | nil => rfl
  | cons a r => exact atI_nat (xs := a :: r) (j := 0) rfl
theorem kb : kitB "int" "int" = some true ∧ kitB "int" "bool" = some false ∧ kitB "int" "tuple" = some false ∧ kitB "int" "list" = some false ∧ kitB "int" "str" = some false ∧
  kitB "bool" "int" = some true ∧ kitB "bool" "bool" = some true ∧ kitB "bool" "tuple" = some false ∧ kitB "bool" "list" = some false ∧ kitB "bool" "str" = some false ∧
  kitB "tuple" "int" = some false ∧ kitB "tuple" "bool" = some false ∧ kitB "tuple" "tuple" = some true ∧ kitB "tuple" "list" = some false ∧ kitB "tuple" "str" = some false ∧
  kitB "list" "int" = some false ∧ kitB "list" "bool" = some false ∧ kitB "list" "tuple" = some false ∧ kitB "list" "list" = some true ∧ kitB "list" "str" = some false ∧
  kitB "str" "int" = some false ∧ kitB "str" "bool" = some false ∧ kitB "str" "tuple" = some false ∧ kitB "str" "list" = some false ∧ kitB "str" "str" = some true ∧
  kitB "dict" "int" = some false ∧ kitB "dict" "bool" = some false ∧ kitB "dict" "tuple" = some false ∧ kitB "dict" "list" = some false ∧ kitB "dict" "str" = some false ∧
  kitB "NoneType" "int" = some false ∧ kitB "NoneType" "bool" = some false ∧ kitB "NoneType" "tuple" = some false ∧ kitB "NoneType" "list" = some false ∧ kitB "NoneType" "str" = some false := by decide +kernel
def mnI (x y : Int) : Int := if y < x then y else x
theorem r_whole (i : Int) : m_law_whole [.int i] = some (.ret (.bl true)) := by simp [m_law_whole, g_law_whole, gIsi, tyName, kb, runP, runO, runQ, ansOf, outQ, env0, envQ, mSeq, mNil, mRet, mRetO, mRetOwn, mRetN, mSet, mSetO, mAsg, mIfS, mThen, mDrop, mApp, mPut, mFor, forGo, mAug, mFn, mFnO, mFnQ, bnd, pur, lft, mCons, mVar, mOp, mUn, mTup, mLst, mLstO, mB, asB, mNot, mAnd, mOr, mAndV, mOrV, mNotV, mIf, mChain, mCall, ansM, mPop, mLenN, mItemN, mSl, mSlO, mCatO, mListO, mListRev, mFz, mLc, lcGo, wipeE, backE, gdName, gdTup, setL, Ent.get, Ent.put, gLen, gOne, gTwo, gI, gAdd, DL.gSub, gMul, gDiv, gMod, gPow, gLt, gLe, gGt, gGe, gNeg, gEqS, gNeS, gIsN, gInt, gAbs, gMin2, gMax2, gStr, gTuple, gList, gIx, seqOf, lstOf, tupOf, asI, rng1, rng2, gSlL, gSlT, gCatS, gCatL, gCatT, tyName, mTruth, gTruth, mDct, intKeys, gKd, gUpper, gdLst, mNewB, mDGet, mDPut, dkAt, keyD, runB, envB, outB, mMake, mFld, mFldN, mFldPut, insAt, partsOf, putS, mMeth, mCallO, OB.frz, zipD, gdTwo, boolsOf, gAny, gAll, mExt, mKeys, keyAsD]
theorem for_nx {t : Tg} {body : MoS} {ε : List Ent} : forGo t body [] ε = some (.nx ε) := rfl
def okD : Nat → D → Prop
  | 0, _ => False
  | n + 1, d => match d with
    | .non => True
    | .bl _ => True
    | .int _ => True
    | .tup ds => ds.length ≤ 1000000 ∧ ∀ e ∈ ds, okD n e
    | _ => False
theorem sm_unf (n : Nat) (ds : List D) : mN_law_same (n + 1) ds = ansOf (g_law_same (mN_law_same n) (env0 3 ds)) := rfl
theorem ix_seq2 {T : D} {ds : List D} {i : Nat} (hT : seqOf T = some ds) (hi : i < ds.length) : gIx T (.int (i : Int)) = some ds[i] := by
  have h := atI_nat (xs := ds) (j := i) (List.getElem?_eq_getElem hi)
  cases T with
  | tup es => cases hT; exact h
  | lst es => cases hT; exact h
  | rdl es => cases hT; exact h
  | _ => cases hT
theorem sm_loop {n : Nat} {T : D} {ds : List D} (hT : seqOf T = some ds) (h : ∀ d ∈ ds, mN_law_same n [d, d] = some (.ret (.bl true))) : ∀ (items : List Nat) (x : Ent), (∀ i ∈ items, i < ds.length) →
    ∃ y, forGo (gdName 2) (bd_law_same_1 (mN_law_same n)) (items.map fun (i : Nat) => D.int (0 + (i : Int))) [.dat T, .dat T, x] = some (.nx [.dat T, .dat T, y])
  | [], x, _ => ⟨x, rfl⟩
  | i :: r, x, hi => by
    obtain ⟨y, hy⟩ := sm_loop hT h r (.dat (.int (0 + (i : Int)))) fun j hj => hi j (List.mem_cons_of_mem _ hj)
    have hl := hi i (List.mem_cons_self ..)
    have e1 := ix_seq2 hT hl
    have e2 := h ds[i] (List.getElem_mem hl)
    refine ⟨y, (for_step (i := 2) (ε' := [.dat T, .dat T, .dat (.int (0 + (i : Int)))]) ?_).trans hy⟩
    show bd_law_same_1 (mN_law_same n) [.dat T, .dat T, .dat (.int (0 + (i : Int)))] = some (.nx [.dat T, .dat T, .dat (.int (0 + (i : Int)))])
    rw [Int.zero_add]
    simp [bd_law_same_1, e1, e2, runP, runO, runQ, ansOf, outQ, env0, envQ, mSeq, mNil, mRet, mRetO, mRetOwn, mRetN, mSet, mSetO, mAsg, mIfS, mThen, mDrop, mApp, mPut, mFor, forGo, mAug, mFn, mFnO, mFnQ, bnd, pur, lft, mCons, mVar, mOp, mUn, mTup, mLst, mLstO, mB, asB, mNot, mAnd, mOr, mAndV, mOrV, mNotV, mIf, mChain, mCall, ansM, mPop, mLenN, mItemN, mSl, mSlO, mCatO, mListO, mListRev, mFz, mLc, lcGo, wipeE, backE, gdName, gdTup, setL, Ent.get, Ent.put, gLen, gOne, gTwo, gI, gAdd, DL.gSub, gMul, gDiv, gMod, gPow, gLt, gLe, gGt, gGe, gNeg, gEqS, gNeS, gIsN, gInt, gAbs, gMin2, gMax2, gStr, gTuple, gList, seqOf, lstOf, asI, rng1, rng2, gSlL, gSlT, gCatS, gCatL, gCatT, tyName, mTruth, gTruth, mDct, intKeys, gKd, gUpper, gdLst, mNewB, mDGet, mDPut, dkAt, keyD, runB, envB, outB, mMake, mFld, mFldN, mFldPut, insAt, partsOf, putS, mMeth, mCallO, OB.frz, zipD, gdTwo, boolsOf, gAny, gAll, mExt, mKeys, keyAsD]
theorem lenN_seq {T : D} {ds : List D} (hT : seqOf T = some ds) (i : Nat) {ε : List Ent} (h : ε[i]? = some (.dat T)) : mLenN i ε = some (.ok (.int ds.length) ε) := by
  unfold mLenN
  rw [h]
  cases T with
  | tup es => cases hT; rfl
  | lst es => cases hT; rfl
  | rdl es => cases hT; rfl
  | _ => cases hT
theorem sm_seq {n : Nat} {ds : List D} (hl : ds.length ≤ 1000000) (h : ∀ d ∈ ds, mN_law_same n [d, d] = some (.ret (.bl true))) : mN_law_same (n + 1) [.tup ds, .tup ds] = some (.ret (.bl true)) := by
  obtain ⟨y, hy⟩ := sm_loop (T := .tup ds) rfl h (List.range ds.length) .un fun i hi => List.mem_range.mp hi
  have len1 := lenN_seq (T := .tup ds) rfl 1 (ε := [.dat (.tup ds), .dat (.tup ds), .un]) rfl
  have l2 : (mFor (bnd (mCons (mLenN 1) (pur [])) fun ds => lft (rng1 ds)) (gdName 2) (bd_law_same_1 (mN_law_same n))) [.dat (.tup ds), .dat (.tup ds), .un] = some (.nx [.dat (.tup ds), .dat (.tup ds), y]) :=
    (for_run (rng1_run (ds := [.int ds.length]) (by simp [mCons, bnd, pur, len1]) (rng_nat _ hl))).trans hy
  have e : g_law_same (mN_law_same n) [.dat (.tup ds), .dat (.tup ds), .un] = some (.rt (.bl true) [.dat (.tup ds), .dat (.tup ds), y]) := by
    unfold g_law_same
    have c1 : ∀ m : MoS, (mIfS (mB (mCall gIsi (mCons (mVar 1) (mCons (pur (.rf (.ty "tuple"))) (pur []))))) m mNil) [.dat (.tup ds), .dat (.tup ds), .un] = m [.dat (.tup ds), .dat (.tup ds), .un] := fun m => by
      simp [gIsi, tyName, kb, runP, runO, runQ, ansOf, outQ, env0, envQ, mSeq, mNil, mRet, mRetO, mRetOwn, mRetN, mSet, mSetO, mAsg, mIfS, mThen, mDrop, mApp, mPut, mFor, forGo, mAug, mFn, mFnO, mFnQ, bnd, pur, lft, mCons, mVar, mOp, mUn, mTup, mLst, mLstO, mB, asB, mNot, mAnd, mOr, mAndV, mOrV, mNotV, mIf, mChain, mCall, ansM, mPop, mLenN, mItemN, mSl, mSlO, mCatO, mListO, mListRev, mFz, mLc, lcGo, wipeE, backE, gdName, gdTup, setL, Ent.get, Ent.put, gLen, gOne, gTwo, gI, gAdd, DL.gSub, gMul, gDiv, gMod, gPow, gLt, gLe, gGt, gGe, gNeg, gEqS, gNeS, gIsN, gInt, gAbs, gMin2, gMax2, gStr, gTuple, gList, gIx, seqOf, lstOf, tupOf, asI, rng1, rng2, gSlL, gSlT, gCatS, gCatL, gCatT, tyName, mTruth, gTruth, mDct, intKeys, gKd, gUpper, gdLst, mNewB, mDGet, mDPut, dkAt, keyD, runB, envB, outB, mMake, mFld, mFldN, mFldPut, insAt, partsOf, putS, mMeth, mCallO, OB.frz, zipD, gdTwo, boolsOf, gAny, gAll, mExt, mKeys, keyAsD]
    refine (seq_rt ?_)
    refine (c1 _).trans ?_
    refine (seq_nx (ε' := [.dat (.tup ds), .dat (.tup ds), .un]) (by simp [gIsi, tyName, kb, runP, runO, runQ, ansOf, outQ, env0, envQ, mSeq, mNil, mRet, mRetO, mRetOwn, mRetN, mSet, mSetO, mAsg, mIfS, mThen, mDrop, mApp, mPut, mFor, forGo, mAug, mFn, mFnO, mFnQ, bnd, pur, lft, mCons, mVar, mOp, mUn, mTup, mLst, mLstO, mB, asB, mNot, mAnd, mOr, mAndV, mOrV, mNotV, mIf, mChain, mCall, ansM, mPop, mLenN, mItemN, mSl, mSlO, mCatO, mListO, mListRev, mFz, mLc, lcGo, wipeE, backE, gdName, gdTup, setL, Ent.get, Ent.put, gLen, gOne, gTwo, gI, gAdd, DL.gSub, gMul, gDiv, gMod, gPow, gLt, gLe, gGt, gGe, gNeg, gEqS, gNeS, gIsN, gInt, gAbs, gMin2, gMax2, gStr, gTuple, gList, gIx, seqOf, lstOf, tupOf, asI, rng1, rng2, gSlL, gSlT, gCatS, gCatL, gCatT, tyName, mTruth, gTruth, mDct, intKeys, gKd, gUpper, gdLst, mNewB, mDGet, mDPut, dkAt, keyD, runB, envB, outB, mMake, mFld, mFldN, mFldPut, insAt, partsOf, putS, mMeth, mCallO, OB.frz, zipD, gdTwo, boolsOf, gAny, gAll, mExt, mKeys, keyAsD])).trans ?_
    exact (seq_nx l2).trans rfl
  exact (sm_unf n _).trans (congrArg ansOf e)
theorem r_sameD : ∀ (n : Nat) (d : D), okD n d → mN_law_same n [d, d] = some (.ret (.bl true))
  | 0, d, h => h.elim
  | n + 1, d, h => by
    cases d with
    | non => simp [mN_law_same, g_law_same, gIsi, tyName, kb, r_whole, runP, runO, runQ, ansOf, outQ, env0, envQ, mSeq, mNil, mRet, mRetO, mRetOwn, mRetN, mSet, mSetO, mAsg, mIfS, mThen, mDrop, mApp, mPut, mFor, forGo, mAug, mFn, mFnO, mFnQ, bnd, pur, lft, mCons, mVar, mOp, mUn, mTup, mLst, mLstO, mB, asB, mNot, mAnd, mOr, mAndV, mOrV, mNotV, mIf, mChain, mCall, ansM, mPop, mLenN, mItemN, mSl, mSlO, mCatO, mListO, mListRev, mFz, mLc, lcGo, wipeE, backE, gdName, gdTup, setL, Ent.get, Ent.put, gLen, gOne, gTwo, gI, gAdd, DL.gSub, gMul, gDiv, gMod, gPow, gLt, gLe, gGt, gGe, gNeg, gEqS, gNeS, gIsN, gInt, gAbs, gMin2, gMax2, gStr, gTuple, gList, gIx, seqOf, lstOf, tupOf, asI, rng1, rng2, gSlL, gSlT, gCatS, gCatL, gCatT, tyName, mTruth, gTruth, mDct, intKeys, gKd, gUpper, gdLst, mNewB, mDGet, mDPut, dkAt, keyD, runB, envB, outB, mMake, mFld, mFldN, mFldPut, insAt, partsOf, putS, mMeth, mCallO, OB.frz, zipD, gdTwo, boolsOf, gAny, gAll, mExt, mKeys, keyAsD]
    | bl b => simp [mN_law_same, g_law_same, gIsi, tyName, kb, r_whole, runP, runO, runQ, ansOf, outQ, env0, envQ, mSeq, mNil, mRet, mRetO, mRetOwn, mRetN, mSet, mSetO, mAsg, mIfS, mThen, mDrop, mApp, mPut, mFor, forGo, mAug, mFn, mFnO, mFnQ, bnd, pur, lft, mCons, mVar, mOp, mUn, mTup, mLst, mLstO, mB, asB, mNot, mAnd, mOr, mAndV, mOrV, mNotV, mIf, mChain, mCall, ansM, mPop, mLenN, mItemN, mSl, mSlO, mCatO, mListO, mListRev, mFz, mLc, lcGo, wipeE, backE, gdName, gdTup, setL, Ent.get, Ent.put, gLen, gOne, gTwo, gI, gAdd, DL.gSub, gMul, gDiv, gMod, gPow, gLt, gLe, gGt, gGe, gNeg, gEqS, gNeS, gIsN, gInt, gAbs, gMin2, gMax2, gStr, gTuple, gList, gIx, seqOf, lstOf, tupOf, asI, rng1, rng2, gSlL, gSlT, gCatS, gCatL, gCatT, tyName, mTruth, gTruth, mDct, intKeys, gKd, gUpper, gdLst, mNewB, mDGet, mDPut, dkAt, keyD, runB, envB, outB, mMake, mFld, mFldN, mFldPut, insAt, partsOf, putS, mMeth, mCallO, OB.frz, zipD, gdTwo, boolsOf, gAny, gAll, mExt, mKeys, keyAsD]
    | int i => simp [mN_law_same, g_law_same, gIsi, tyName, kb, r_whole, runP, runO, runQ, ansOf, outQ, env0, envQ, mSeq, mNil, mRet, mRetO, mRetOwn, mRetN, mSet, mSetO, mAsg, mIfS, mThen, mDrop, mApp, mPut, mFor, forGo, mAug, mFn, mFnO, mFnQ, bnd, pur, lft, mCons, mVar, mOp, mUn, mTup, mLst, mLstO, mB, asB, mNot, mAnd, mOr, mAndV, mOrV, mNotV, mIf, mChain, mCall, ansM, mPop, mLenN, mItemN, mSl, mSlO, mCatO, mListO, mListRev, mFz, mLc, lcGo, wipeE, backE, gdName, gdTup, setL, Ent.get, Ent.put, gLen, gOne, gTwo, gI, gAdd, DL.gSub, gMul, gDiv, gMod, gPow, gLt, gLe, gGt, gGe, gNeg, gEqS, gNeS, gIsN, gInt, gAbs, gMin2, gMax2, gStr, gTuple, gList, gIx, seqOf, lstOf, tupOf, asI, rng1, rng2, gSlL, gSlT, gCatS, gCatL, gCatT, tyName, mTruth, gTruth, mDct, intKeys, gKd, gUpper, gdLst, mNewB, mDGet, mDPut, dkAt, keyD, runB, envB, outB, mMake, mFld, mFldN, mFldPut, insAt, partsOf, putS, mMeth, mCallO, OB.frz, zipD, gdTwo, boolsOf, gAny, gAll, mExt, mKeys, keyAsD]
    | tup ds => exact sm_seq h.1 fun e he => r_sameD n e (h.2 e he)
    | _ => exact h.elim
theorem inR3 : inR 3 = true := by decide
theorem rangeD3 : rangeD 0 3 = [.int 0, .int 1, .int 2] := rfl
theorem rng3 : rng1 [.int 3] = some [.int 0, .int 1, .int 2] := (rng_nat 3 (by decide)).trans rfl
theorem rng4 : rng1 [.int 4] = some [.int 0, .int 1, .int 2, .int 3] := (rng_nat 4 (by decide)).trans rfl

/-! points and the curve through them -/
abbrev Pt := Int × Int
def Chain : Pt → List Pt → Prop
  | _, [] => True
  | p, q :: r => p.1 < q.1 ∧ Chain q r
def lastX : Pt → List Pt → Int
  | p, [] => p.1
  | _, q :: r => lastX q r
def seg (p q : Pt) (v : Int) : Int := p.2 + (2 * (q.2 - p.2) * (v - p.1) + (q.1 - p.1)) / (2 * (q.1 - p.1))
def cv : Pt → List Pt → Int → Int
  | p, [], _ => p.2
  | p, q :: r, v => if v ≤ q.1 then seg p q v else cv q r v
def hgo : Pt → List Pt → List Int
  | _, [] => []
  | p, q :: r => ((List.range (q.1 - p.1).toNat).map fun (k : Nat) => seg p q (p.1 + 1 + (k : Int))) ++ hgo q r
theorem chain_last : ∀ {p : Pt} {r : List Pt}, Chain p r → p.1 ≤ lastX p r
  | _, [], _ => Int.le_refl _
  | p, q :: r, h => Int.le_trans (Int.le_of_lt h.1) (chain_last h.2)
theorem seg_lo (p q : Pt) (h : p.1 < q.1) : seg p q p.1 = p.2 := by
  unfold seg
  rw [Int.sub_self, Int.mul_zero, Int.zero_add, Int.ediv_eq_zero_of_lt (by omega) (by omega), Int.add_zero]
theorem seg_hi (p q : Pt) (h : p.1 < q.1) : seg p q q.1 = q.2 := by
  unfold seg
  have e : 2 * (q.2 - p.2) * (q.1 - p.1) + (q.1 - p.1) = (q.1 - p.1) + (q.2 - p.2) * (2 * (q.1 - p.1)) := by
    rw [Int.mul_assoc, Int.mul_left_comm, Int.add_comm]
  rw [e, Int.add_mul_ediv_right _ _ (by omega), Int.ediv_eq_zero_of_lt (by omega) (by omega)]
  omega
theorem seg_in {p q : Pt} {v : Int} (h : p.1 < q.1) (h1 : p.1 ≤ v) (h2 : v ≤ q.1) : (p.2 ≤ q.2 → p.2 ≤ seg p q v ∧ seg p q v ≤ q.2) ∧ (q.2 ≤ p.2 → q.2 ≤ seg p q v ∧ seg p q v ≤ p.2) := by
  unfold seg
  have w0 : 0 < 2 * (q.1 - p.1) := by omega
  have hi : ∀ x y : Int, x < (y + 1) * (2 * (q.1 - p.1)) → x / (2 * (q.1 - p.1)) ≤ y := fun x y hx => Int.lt_add_one_iff.mp (Int.ediv_lt_of_lt_mul w0 hx)
  have lo : ∀ x y : Int, y * (2 * (q.1 - p.1)) ≤ x → y ≤ x / (2 * (q.1 - p.1)) := fun x y hx => (Int.le_ediv_iff_mul_le w0).mpr hx
  have m1 : ∀ d : Int, 2 * d * (q.1 - p.1) = d * (2 * (q.1 - p.1)) := fun d => by rw [Int.mul_assoc, Int.mul_left_comm]
  refine ⟨fun hd => ?_, fun hd => ?_⟩
  · have a0 : 0 ≤ 2 * (q.2 - p.2) * (v - p.1) := Int.mul_nonneg (by omega) (by omega)
    have a1 : 2 * (q.2 - p.2) * (v - p.1) ≤ 2 * (q.2 - p.2) * (q.1 - p.1) := Int.mul_le_mul_of_nonneg_left (by omega) (by omega)
    have b1 := lo (2 * (q.2 - p.2) * (v - p.1) + (q.1 - p.1)) 0 (by omega)
    have b2 := hi (2 * (q.2 - p.2) * (v - p.1) + (q.1 - p.1)) (q.2 - p.2) (by
      have := m1 (q.2 - p.2)
      rw [Int.add_mul]; omega)
    omega
  · have a0 : 2 * (q.2 - p.2) * (v - p.1) ≤ 0 := Int.mul_nonpos_of_nonpos_of_nonneg (by omega) (by omega)
    have a1 : 2 * (q.2 - p.2) * (q.1 - p.1) ≤ 2 * (q.2 - p.2) * (v - p.1) := Int.mul_le_mul_of_nonpos_left (by omega) (by omega)
    have b1 := lo (2 * (q.2 - p.2) * (v - p.1) + (q.1 - p.1)) (q.2 - p.2) (by
      have := m1 (q.2 - p.2)
      omega)
    have b2 := hi (2 * (q.2 - p.2) * (v - p.1) + (q.1 - p.1)) 0 (by omega)
    omega
def Ys (p : Pt) (r : List Pt) : Prop := (0 ≤ p.2 ∧ p.2 ≤ 255) ∧ ∀ q ∈ r, 0 ≤ q.2 ∧ q.2 ≤ 255
theorem Ys.tl {p q : Pt} {r : List Pt} (h : Ys p (q :: r)) : Ys q r := ⟨h.2 q (List.mem_cons_self ..), fun x hx => h.2 x (List.mem_cons_of_mem _ hx)⟩
theorem cv_in {v : Int} : ∀ {p : Pt} {r : List Pt}, Chain p r → Ys p r → p.1 ≤ v → 0 ≤ cv p r v ∧ cv p r v ≤ 255
  | p, [], _, y, _ => y.1
  | p, q :: r, h, y, h1 => by
    unfold cv
    by_cases c : v ≤ q.1
    · rw [if_pos c]
      have s := seg_in h.1 h1 c
      have y1 := y.1
      have y2 := y.2 q (List.mem_cons_self ..)
      rcases Int.le_total p.2 q.2 with k | k
      · have := s.1 k; omega
      · have := s.2 k; omega
    · rw [if_neg c]
      exact cv_in h.2 y.tl (by omega)
theorem hgo_at {v : Int} : ∀ {p : Pt} {r : List Pt}, Chain p r → p.1 < v → v ≤ lastX p r → (hgo p r)[(v - p.1 - 1).toNat]? = some (cv p r v)
  | p, [], _, h1, h2 => by
    have : v ≤ p.1 := h2
    omega
  | p, q :: r, h, h1, h2 => by
    unfold hgo cv
    have hl : ((List.range (q.1 - p.1).toNat).map fun (k : Nat) => seg p q (p.1 + 1 + (k : Int))).length = (q.1 - p.1).toNat := by simp
    have h01 := h.1
    by_cases c : v ≤ q.1
    · rw [if_pos c, List.getElem?_append_left (by rw [hl]; omega), List.getElem?_map, List.getElem?_range (by omega)]
      show some (seg p q (p.1 + 1 + (((v - p.1 - 1).toNat : Nat) : Int))) = _
      rw [show p.1 + 1 + (((v - p.1 - 1).toNat : Nat) : Int) = v by omega]
    · rw [if_neg c, List.getElem?_append_right (by rw [hl]; omega), hl]
      have := hgo_at (v := v) h.2 (by omega) h2
      rw [← this]
      congr 1
      omega
theorem hgo_len : ∀ {p : Pt} {r : List Pt}, Chain p r → ((hgo p r).length : Int) = lastX p r - p.1
  | p, [], _ => by show ((0 : Nat) : Int) = p.1 - p.1; omega
  | p, q :: r, h => by
    unfold hgo
    rw [List.length_append, List.length_map, List.length_range]
    have := hgo_len h.2
    have h1 := h.1
    show (((q.1 - p.1).toNat + (hgo q r).length : Nat) : Int) = lastX q r - p.1
    omega
theorem cv_start {p q : Pt} {r : List Pt} (h : p.1 < q.1) : cv p (q :: r) p.1 = p.2 := by
  unfold cv
  rw [if_pos (by omega), seg_lo p q h]
/-! the program's curve -/
def ptD (p : Pt) : D := .tup [.int p.1, .int p.2]
def ptsD (ps : List Pt) : D := .tup (ps.map ptD)
/-- points that a curve can be made of -/
structure Good12 (p : Pt) (r : List Pt) : Prop where
  ch : Chain p r
  ys : Ys p r
  x0 : p.1 = 0
  xl : lastX p r = 255
  ne : r ≠ []
  len : r.length ≤ 15
theorem xs_in : ∀ {p : Pt} {r : List Pt}, Chain p r → ∀ q ∈ r, p.1 < q.1 ∧ q.1 ≤ lastX p r
  | p, [], _, q, hq => by cases hq
  | p, a :: r, h, q, hq => by
    rcases List.mem_cons.mp hq with rfl | hq
    · exact ⟨h.1, chain_last h.2⟩
    · have := xs_in h.2 q hq
      have h1 := h.1
      exact ⟨by omega, this.2⟩
theorem gmul_s {x y : Int} (h1 : -1000000 ≤ x) (h2 : x ≤ 1000000) (h3 : -1000000 ≤ y) (h4 : y ≤ 1000000) : mulOk x y = true := mulOk_small (by omega) (by omega)
theorem inR_s {x : Int} (h1 : -1000000 ≤ x) (h2 : x ≤ 1000000) : inR x = true := inR_mk (by omega) (by omega)
/-- one stretch of the heights -/
theorem h_seg {p q : Pt} {T zs : D} {e : Ent} (h : p.1 < q.1) (h0 : 0 ≤ p.1) (h1 : q.1 ≤ 255) (y1 : 0 ≤ p.2 ∧ p.2 ≤ 255) (y2 : 0 ≤ q.2 ∧ q.2 ≤ 255) {ls : List D} {e7 : Ent} :
    ∀ (n k : Nat) (acc : List D), k + n = (q.1 - p.1).toNat → acc.length = k → lcGo [7] (gdName 7) (pur true) bd_heights_1 ((List.range' k n).map fun (i : Nat) => D.int (p.1 + 1 + (i : Int))) acc [.dat T, .own ls, .dat (.int p.1), .dat (.int p.2), .dat (.int q.1), .dat (.int q.2), .dat (.int (q.1 - p.1)), .un] = some (.ok (acc ++ ((List.range' k n).map fun (i : Nat) => D.int (seg p q (p.1 + 1 + (i : Int))))) [.dat T, .own ls, .dat (.int p.1), .dat (.int p.2), .dat (.int q.1), .dat (.int q.2), .dat (.int (q.1 - p.1)), .un])
  | 0, k, acc, _, _ => by simp [lcGo, pur]
  | n + 1, k, acc, hk, ha => by
    rw [List.range'_succ, List.map_cons, List.map_cons]
    have m1 := gmul_s (x := 2) (y := q.2 - p.2) (by omega) (by omega) (by omega) (by omega)
    have m2 := gmul_s (x := 2 * (q.2 - p.2)) (y := p.1 + 1 + (k : Int) - p.1) (by omega) (by omega) (by omega) (by omega)
    have m3 := gmul_s (x := 2) (y := q.1 - p.1) (by omega) (by omega) (by omega) (by omega)
    have d1 : 0 < 2 * (q.1 - p.1) ∧ 2 * (q.1 - p.1) < 1073741824 := by omega
    have ih := h_seg h h0 h1 y1 y2 (T := T) (zs := zs) (e := e) (ls := ls) (e7 := e7) n (k + 1) (acc ++ [.int (seg p q (p.1 + 1 + (k : Int)))]) (by omega) (by rw [List.length_append, ha]; rfl)
    have al : acc.length < 1000000 := by omega
    rw [List.append_assoc, List.singleton_append] at ih
    refine Eq.trans ?_ ih
    simp [lcGo, gdName, setL, pur, bd_heights_1, mOp, mVar, bnd, lft, gAdd, gMul, DL.gSub, gDiv, gI, m1, m2, m3, d1.1, d1.2, al, wipeE, seg]

theorem rng2_mk {a b : Int} (h1 : -1000000 ≤ a) (h2 : a ≤ 1000000) (h3 : -1000000 ≤ b) (h4 : b ≤ 1000000) : rng2 [.int a, .int b] = some (rangeD a (b - a).toNat) := by
  unfold rng2
  dsimp only
  rw [if_pos ⟨inR_s h1 h2, inR_s h3 h4⟩]
def segs (p q : Pt) : List Int := (List.range (q.1 - p.1).toNat).map fun (k : Nat) => seg p q (p.1 + 1 + (k : Int))
theorem h_step {p q : Pt} {T : D} {ls : List Int} {e6 : Ent} (h : p.1 < q.1) (h0 : 0 ≤ p.1) (h1 : q.1 ≤ 255) (y1 : 0 ≤ p.2 ∧ p.2 ≤ 255) (y2 : 0 ≤ q.2 ∧ q.2 ≤ 255) (hl : ls.length ≤ 10000) :
    bd_heights_3 [.dat T, .own (ls.map D.int), .dat (.int p.1), .dat (.int p.2), .dat (.int q.1), .dat (.int q.2), e6, .un] = some (.nx [.dat T, .own ((ls ++ segs p q).map D.int), .dat (.int p.1), .dat (.int p.2), .dat (.int q.1), .dat (.int q.2), .dat (.int (q.1 - p.1)), .un]) := by
  have r := rng2_mk (a := p.1 + 1) (b := q.1 + 1) (by omega) (by omega) (by omega) (by omega)
  have e := h_seg (T := T) (zs := T) (e := .un) (e7 := .un) h h0 h1 y1 y2 (ls := ls.map D.int) (q.1 - p.1).toNat 0 [] (by omega) rfl
  have eq : rangeD (p.1 + 1) (q.1 + 1 - (p.1 + 1)).toNat = (List.range' 0 (q.1 - p.1).toNat).map fun (i : Nat) => D.int (p.1 + 1 + (i : Int)) := by
    unfold rangeD
    rw [show q.1 + 1 - (p.1 + 1) = q.1 - p.1 by omega, List.range_eq_range']
  rw [← eq] at e
  rw [List.nil_append] at e
  have el : ((List.range' 0 (q.1 - p.1).toNat).map fun (i : Nat) => D.int (seg p q (p.1 + 1 + (i : Int)))) = (segs p q).map D.int := by
    unfold segs
    rw [List.map_map, List.range_eq_range']
    rfl
  rw [el] at e
  have sl : (segs p q).length = (q.1 - p.1).toNat := by simp [segs]
  have lc : bd_heights_2 [.dat T, .own (ls.map D.int), .dat (.int p.1), .dat (.int p.2), .dat (.int q.1), .dat (.int q.2), .dat (.int (q.1 - p.1)), .un] = some (.ok ((segs p q).map D.int) [.dat T, .own (ls.map D.int), .dat (.int p.1), .dat (.int p.2), .dat (.int q.1), .dat (.int q.2), .dat (.int (q.1 - p.1)), .un]) := by
    simp only [bd_heights_2, mLc, bnd, mCons, mOp, mVar, pur, lft, gAdd, gI]
    simp only [List.getElem?_cons_succ, List.getElem?_cons_zero, if_true, r, wipeE]
    have w : [Ent.dat T, .own (ls.map D.int), .dat (.int p.1), .dat (.int p.2), .dat (.int q.1), .dat (.int q.2), .dat (.int (q.1 - p.1)), .un].set 7 .un = [Ent.dat T, .own (ls.map D.int), .dat (.int p.1), .dat (.int p.2), .dat (.int q.1), .dat (.int q.2), .dat (.int (q.1 - p.1)), .un] := rfl
    rw [w]
    rw [e]
    rfl
  have ml : (ls.map D.int).length + ((segs p q).map D.int).length ≤ 1000000 := by rw [List.length_map, List.length_map, sl]; omega
  unfold bd_heights_3
  refine (seq_nx (ε' := [.dat T, .own (ls.map D.int), .dat (.int p.1), .dat (.int p.2), .dat (.int q.1), .dat (.int q.2), .dat (.int (q.1 - p.1)), .un]) (by simp [mSet, mThen, mOp, mVar, bnd, lft, DL.gSub, gI])).trans ?_
  simp only [mExt, mThen, mFz, bnd, lc, pur]
  simp only [List.getElem?_cons_succ, List.getElem?_cons_zero, Option.bind_some, Ent.get, ml, if_true, Ent.put]
  rw [List.map_append]
  rfl
theorem hgo_cons (p q : Pt) (r : List Pt) : hgo p (q :: r) = segs p q ++ hgo q r := rfl
def pairsOf : Pt → List Pt → List D
  | _, [] => []
  | p, q :: r => .tup [ptD p, ptD q] :: pairsOf q r
theorem zip_pairs : ∀ (p : Pt) (r : List Pt), ((((p :: r).map ptD).zip (r.map ptD)).map fun x => D.tup [x.1, x.2]) = pairsOf p r
  | p, [] => rfl
  | p, q :: r => by
    have := zip_pairs q r
    rw [List.map_cons, List.map_cons] at *
    rw [List.zip_cons_cons, List.map_cons, pairsOf]
    rw [← this]
theorem h_loop {T : D} : ∀ {p : Pt} {r : List Pt} {ls : List Int} {e2 e3 e4 e5 e6 : Ent}, Chain p r → Ys p r → 0 ≤ p.1 → lastX p r ≤ 255 → ls.length ≤ 10000 - (lastX p r - p.1).toNat →
    ∃ f2 f3 f4 f5 f6, forGo (gdTwo 2 3 4 5) bd_heights_3 (pairsOf p r) [.dat T, .own (ls.map D.int), e2, e3, e4, e5, e6, .un] = some (.nx [.dat T, .own ((ls ++ hgo p r).map D.int), f2, f3, f4, f5, f6, .un])
  | p, [], ls, e2, e3, e4, e5, e6, _, _, _, _, _ => ⟨e2, e3, e4, e5, e6, by simp [pairsOf, hgo, forGo]⟩
  | p, q :: r, ls, e2, e3, e4, e5, e6, h, y, h0, h1, hl => by
    have hx := xs_in h q (List.mem_cons_self ..)
    have l1 : lastX p (q :: r) = lastX q r := rfl
    have c1 := chain_last h.2
    have sl : (segs p q).length = (q.1 - p.1).toNat := by simp [segs]
    have st := h_step (T := T) (ls := ls) (e6 := e6) h.1 h0 (by omega) y.1 (y.2 q (List.mem_cons_self ..)) (by omega)
    obtain ⟨f2, f3, f4, f5, f6, e⟩ := h_loop (T := T) (p := q) (r := r) (ls := ls ++ segs p q) (e2 := .dat (.int p.1)) (e3 := .dat (.int p.2)) (e4 := .dat (.int q.1)) (e5 := .dat (.int q.2)) (e6 := .dat (.int (q.1 - p.1))) h.2 y.tl (by omega) (by omega) (by rw [List.length_append, sl]; omega)
    refine ⟨f2, f3, f4, f5, f6, ?_⟩
    rw [hgo_cons, ← List.append_assoc, ← e]
    show (match bd_heights_3 (setL [.dat T, .own (ls.map D.int), e2, e3, e4, e5, e6, .un] [2, 3, 4, 5] [.int p.1, .int p.2, .int q.1, .int q.2]) with | some (.nx ε') => forGo (gdTwo 2 3 4 5) bd_heights_3 (pairsOf q r) ε' | some (.ct ε') => forGo (gdTwo 2 3 4 5) bd_heights_3 (pairsOf q r) ε' | some (.bk ε') => some (.nx ε') | r => r) = _
    have es : setL [.dat T, .own (ls.map D.int), e2, e3, e4, e5, e6, .un] [2, 3, 4, 5] [.int p.1, .int p.2, .int q.1, .int q.2] = [.dat T, .own (ls.map D.int), .dat (.int p.1), .dat (.int p.2), .dat (.int q.1), .dat (.int q.2), e6, .un] := rfl
    rw [es, st]
theorem sl_tail (d : D) (ds : List D) : gSlT (.tup (d :: ds)) (some 1) none = some (.tup ds) := by
  show some (D.tup (cutD (d :: ds) (some 1) none)) = _
  unfold cutD
  rw [HT.sIx_none]
  have : HT.sIx (d :: ds).length 0 (some 1) = 1 := by
    have := HT.sIx_nat (d :: ds).length 0 1
    rw [show ((1 : Nat) : Int) = 1 from rfl] at this
    rw [this, List.length_cons]
    omega
  rw [this, List.drop_one, List.tail_cons, List.length_cons, List.take_of_length_le (by omega)]
theorem r_heights {p : Pt} {r : List Pt} (G : Good12 p r) : m_heights [ptsD (p :: r)] = some (.ret (.tup ((p.2 :: hgo p r).map D.int))) := by
  have hx := G.x0
  have hl := G.xl
  obtain ⟨f2, f3, f4, f5, f6, e⟩ := h_loop (T := ptsD (p :: r)) (p := p) (r := r) (ls := [p.2]) (e2 := .un) (e3 := .un) (e4 := .un) (e5 := .un) (e6 := .un) G.ch G.ys (by omega) (by omega) (by rw [List.length_singleton]; omega)
  have it : (bnd (mCons (mVar 0) (mCons (mSl gSlT (mVar 0) (bnd (pur (.int 1)) fun d => lft ((asI d).map some)) (pur none)) (pur []))) fun ds => lft (zipD ds)) [.dat (ptsD (p :: r)), .own ([p.2].map D.int), .un, .un, .un, .un, .un, .un] = some (.ok (pairsOf p r) [.dat (ptsD (p :: r)), .own ([p.2].map D.int), .un, .un, .un, .un, .un, .un]) := by
    have s := sl_tail (ptD p) (r.map ptD)
    rw [← zip_pairs]
    simp [mCons, mSl, mVar, bnd, pur, lft, asI, ptsD, s, zipD]
  have g0 : gIx (ptsD (p :: r)) (.int 0) = some (ptD p) := ix_seq2 (T := ptsD (p :: r)) (ds := (p :: r).map ptD) (i := 0) rfl (by simp)
  have g1 : gIx (ptD p) (.int 1) = some (.int p.2) := rfl
  have eg : g_heights [.dat (ptsD (p :: r)), .un, .un, .un, .un, .un, .un, .un] = some (.rt (.tup ((p.2 :: hgo p r).map D.int)) [.dat (ptsD (p :: r)), .dat (.lst ((p.2 :: hgo p r).map D.int)), f2, f3, f4, f5, f6, .un]) := by
    unfold g_heights
    refine (seq_nx (ε' := [.dat (ptsD (p :: r)), .own ([p.2].map D.int), .un, .un, .un, .un, .un, .un]) (by simp [mSetO, mLstO, mThen, mCons, mOp, mVar, bnd, pur, lft, g0, g1])).trans ?_
    refine (seq_nx ((for_run it).trans e)).trans ?_
    rfl
  exact congrArg ansOf eg

theorem nil_run {ε : List Ent} : (pur [] : Mo (List D)) ε = some (.ok [] ε) := rfl
theorem cons_run {f : Mo D} {fs : Mo (List D)} {ε ε1 ε2 : List Ent} {d : D} {ds : List D} (h1 : f ε = some (.ok d ε1)) (h2 : fs ε1 = some (.ok ds ε2)) : mCons f fs ε = some (.ok (d :: ds) ε2) := by
  unfold mCons bnd; rw [h1]; dsimp only; rw [h2]; rfl
theorem one_run {f : Mo D} {ε ε1 : List Ent} {d : D} (h1 : f ε = some (.ok d ε1)) : mCons f (pur []) ε = some (.ok [d] ε1) := cons_run h1 rfl
theorem two_run {f g : Mo D} {ε ε1 ε2 : List Ent} {d e : D} (h1 : f ε = some (.ok d ε1)) (h2 : g ε1 = some (.ok e ε2)) : mCons f (mCons g (pur [])) ε = some (.ok [d, e] ε2) := cons_run h1 (one_run h2)
theorem fn_run {n : Nat} {m : List D → Option Ans} {fs : Mo (List D)} {ε ε1 : List Ent} {d : D} {ds : List D} (h : fs ε = some (.ok ds ε1)) (hl : ds.length = n) (hm : m ds = some (.ret d)) : mFn n m fs ε = some (.ok d ε1) := by
  unfold mFn bnd; rw [h]; dsimp only; rw [if_pos hl]; simp [ansM, hm]
theorem call_run {g : List D → Option D} {fs : Mo (List D)} {ε ε1 : List Ent} {d : D} {ds : List D} (h : fs ε = some (.ok ds ε1)) (hm : g ds = some d) : mCall g fs ε = some (.ok d ε1) := by
  unfold mCall bnd lft; rw [h]; dsimp only; rw [hm]
theorem op_run {g : D → D → Option D} {f1 f2 : Mo D} {ε ε1 ε2 : List Ent} {a b c : D} (h1 : f1 ε = some (.ok a ε1)) (h2 : f2 ε1 = some (.ok b ε2)) (h : g a b = some c) : mOp g f1 f2 ε = some (.ok c ε2) := by
  unfold mOp bnd lft; rw [h1]; dsimp only; rw [h2]; dsimp only; rw [h]
theorem un_run {g : D → Option D} {f : Mo D} {ε ε1 : List Ent} {a c : D} (h1 : f ε = some (.ok a ε1)) (h : g a = some c) : mUn g f ε = some (.ok c ε1) := by
  unfold mUn bnd lft; rw [h1]; dsimp only; rw [h]
theorem set_run {i : Nat} {f : Mo D} {ε ε1 : List Ent} {d : D} (h : f ε = some (.ok d ε1)) : mSet i f ε = some (.nx (ε1.set i (.dat d))) := by
  unfold mSet mThen; rw [h]
theorem setO_run {i : Nat} {f : Mo (List D)} {ε ε1 : List Ent} {ds : List D} (h : f ε = some (.ok ds ε1)) : mSetO i f ε = some (.nx (ε1.set i (.own ds))) := by
  unfold mSetO mThen; rw [h]
theorem ret_run {f : Mo D} {ε ε1 : List Ent} {d : D} (h : f ε = some (.ok d ε1)) : mRet f ε = some (.rt d ε1) := by
  unfold mRet mThen; rw [h]
theorem fz_run {f : Mo (List D)} {ε ε1 : List Ent} {ds : List D} (h : f ε = some (.ok ds ε1)) : mFz f ε = some (.ok (.lst ds) ε1) := by
  unfold mFz bnd; rw [h]; rfl
theorem tup_run {f : Mo (List D)} {ε ε1 : List Ent} {ds : List D} (h : f ε = some (.ok ds ε1)) (hl : ds.length ≤ 1000) : mTup f ε = some (.ok (.tup ds) ε1) := by
  unfold mTup bnd lft; rw [h]; dsimp only; rw [if_pos hl]
theorem lst_run {f : Mo (List D)} {ε ε1 : List Ent} {ds : List D} (h : f ε = some (.ok ds ε1)) (hl : ds.length ≤ 1000) : mLst f ε = some (.ok (.lst ds) ε1) := by
  unfold mLst bnd lft; rw [h]; dsimp only; rw [if_pos hl]
theorem mB_run {f : Mo D} {ε ε1 : List Ent} {b : Bool} (h : f ε = some (.ok (.bl b) ε1)) : mB f ε = some (.ok b ε1) := by
  unfold mB bnd lft; rw [h]; rfl
theorem not_run {f : Mo Bool} {ε ε1 : List Ent} {b : Bool} (h : f ε = some (.ok b ε1)) : mNot f ε = some (.ok (!b) ε1) := by
  unfold mNot bnd; rw [h]; rfl
theorem or_ff {f g : Mo Bool} {ε ε1 ε2 : List Ent} {b : Bool} (h : f ε = some (.ok false ε1)) (h2 : g ε1 = some (.ok b ε2)) : mOr f g ε = some (.ok b ε2) := by
  unfold mOr bnd; rw [h]; exact h2
theorem ifS_no {c : Mo Bool} {a b : MoS} {ε ε1 : List Ent} (h : c ε = some (.ok false ε1)) : mIfS c a b ε = b ε1 := by
  unfold mIfS mThen; rw [h]; rfl
theorem ifS_yes {c : Mo Bool} {a b : MoS} {ε ε1 : List Ent} (h : c ε = some (.ok true ε1)) : mIfS c a b ε = a ε1 := by
  unfold mIfS mThen; rw [h]; rfl
theorem if_no {c : Mo Bool} {a b : Mo D} {ε ε1 : List Ent} (h : c ε = some (.ok false ε1)) : mIf c a b ε = b ε1 := by
  unfold mIf bnd; rw [h]; rfl
theorem if_yes {c : Mo Bool} {a b : Mo D} {ε ε1 : List Ent} (h : c ε = some (.ok true ε1)) : mIf c a b ε = a ε1 := by
  unfold mIf bnd; rw [h]; rfl
theorem if_not {f : Mo D} {a : MoS} {ε ε1 : List Ent} (h : f ε = some (.ok (.bl true) ε1)) : mIfS (mNot (mB f)) a mNil ε = some (.nx ε1) := ifS_no (not_run (mB_run h))
theorem make_run {c : Str} {n : Nat} {m : OB → List D → Option (Ans × OB)} {f : Mo (List D)} {ε ε1 : List Ent} {ds : List D} {b : OB} (h : f ε = some (.ok ds ε1)) (hl : ds.length + 1 = n) (hm : m (.ins c []) ds = some (.ret .non, b)) : mMake c n m f ε = some (.ok b.frz ε1) := by
  unfold mMake bnd; rw [h]; dsimp only; rw [if_pos hl, hm]
theorem chain_run {g1 g2 : D → D → Option D} {f g h : Mo D} {ε ε1 ε2 ε3 : List Ent} {x y z w : D} (hf : f ε = some (.ok x ε1)) (hg : g ε1 = some (.ok y ε2)) (h1 : g1 x y = some (.bl true)) (hh : h ε2 = some (.ok z ε3)) (h2 : g2 y z = some w) : mChain g1 g2 f g h ε = some (.ok w ε3) := by
  unfold mChain bnd mB lft
  rw [hf]; dsimp only [bnd]
  rw [hg]; dsimp only [bnd, lft]
  rw [h1]; dsimp only [bnd, lft, asB, pur]
  rw [if_pos rfl]
  rw [hh]; dsimp only
  rw [h2]
theorem chain_no {g1 g2 : D → D → Option D} {f g h : Mo D} {ε ε1 ε2 : List Ent} {x y : D} (hf : f ε = some (.ok x ε1)) (hg : g ε1 = some (.ok y ε2)) (h1 : g1 x y = some (.bl false)) : mChain g1 g2 f g h ε = some (.ok (.bl false) ε2) := by
  unfold mChain bnd mB lft
  rw [hf]; dsimp only [bnd]
  rw [hg]; dsimp only [bnd, lft]
  rw [h1]; rfl
theorem le_t {i j : Int} (h : i ≤ j) : gLe (.int i) (.int j) = some (.bl true) := by
  simp [gLe, gI, h]
theorem le_f {i j : Int} (h : ¬ i ≤ j) : gLe (.int i) (.int j) = some (.bl false) := by
  simp [gLe, gI, h]
theorem eq_t {i j : Int} (h : i = j) : gEqS (.int i) (.int j) = some (.bl true) := by
  simp [gEqS, h]
theorem eq_f {i j : Int} (h : i ≠ j) : gEqS (.int i) (.int j) = some (.bl false) := by
  simp [gEqS, h]
theorem ne_f {i j : Int} (h : i = j) : gNeS (.int i) (.int j) = some (.bl false) := by
  simp [gNeS, h]
theorem ne_t {i j : Int} (h : i ≠ j) : gNeS (.int i) (.int j) = some (.bl true) := by
  simp [gNeS, h]
theorem it_run {α β : Type} {f : Mo α} {g : α → Option β} {ε ε1 : List Ent} {a : α} {b : β} (h : f ε = some (.ok a ε1)) (h2 : g a = some b) : (bnd f fun x => lft (g x)) ε = some (.ok b ε1) := by
  unfold bnd lft; rw [h]; dsimp only; rw [h2]

theorem lc_gen {vs : List Nat} {t : Tg} {te : Mo D} {f : D → D} {ε : List Ent} : ∀ (items acc : List D), acc.length + items.length ≤ 1000000 → (∀ d ∈ items, ∃ ds ε1, t.parts d = some ds ∧ te (setL ε t.is ds) = some (.ok (f d) ε1) ∧ wipeE ε1 vs = ε) → lcGo vs t (pur true) te items acc ε = some (.ok (acc ++ items.map f) ε)
  | [], acc, _, _ => by simp [lcGo, pur]
  | d :: r, acc, hl, h => by
    rw [List.length_cons] at hl
    obtain ⟨ds, ε1, h1, h2, h3⟩ := h d (List.mem_cons_self ..)
    have ih := lc_gen (vs := vs) (t := t) (te := te) (f := f) (ε := ε) r (acc ++ [f d]) (by rw [List.length_append, List.length_singleton]; omega) fun e he => h e (List.mem_cons_of_mem _ he)
    rw [List.append_assoc, List.singleton_append] at ih
    rw [List.map_cons, ← ih]
    have hlt : acc.length < 1000000 := by omega
    show (match t.parts d with | none => none | some ds => match pur true (setL ε t.is ds) with | some (.ok true ε1) => (match te ε1 with | some (.ok y ε2) => if acc.length < 1000000 then lcGo vs t (pur true) te r (acc ++ [y]) (wipeE ε2 vs) else none | _ => none) | some (.ok false ε1) => lcGo vs t (pur true) te r acc (wipeE ε1 vs) | _ => none) = _
    rw [h1]
    dsimp only [pur]
    rw [h2]
    dsimp only
    rw [if_pos hlt, h3]
theorem mlc_gen {vs : List Nat} {fi : Mo (List D)} {t : Tg} {te : Mo D} {f : D → D} {ε ε' ε2 : List Ent} {items : List D} (hf : fi ε = some (.ok items ε')) (hl : items.length ≤ 1000000) (h : ∀ d ∈ items, ∃ ds ε1, t.parts d = some ds ∧ te (setL (wipeE ε' vs) t.is ds) = some (.ok (f d) ε1) ∧ wipeE ε1 vs = wipeE ε' vs) (hb : backE ε' (wipeE ε' vs) vs = ε2) : mLc vs fi t (pur true) te ε = some (.ok (items.map f) ε2) := by
  have e := lc_gen (vs := vs) (t := t) (te := te) (f := f) (ε := wipeE ε' vs) items [] (by simpa using hl) h
  rw [List.nil_append] at e
  unfold mLc bnd
  rw [hf]
  dsimp only
  rw [e]
  dsimp only
  rw [hb]
theorem bools_const (b : Bool) : ∀ l : List D, boolsOf (l.map fun _ => D.bl b) = some (l.map fun _ => b)
  | [] => rfl
  | d :: r => by simp [boolsOf, bools_const b r]
theorem any_false : ∀ l : List D, (l.map fun _ => false).any id = false
  | [] => rfl
  | d :: r => by rw [List.map_cons, List.any_cons, any_false r]; rfl
theorem all_true : ∀ l : List D, (l.map fun _ => true).all id = true
  | [] => rfl
  | d :: r => by rw [List.map_cons, List.all_cons, all_true r]; rfl
theorem any_const (l : List D) : gAny (.lst (l.map fun _ => D.bl false)) = some (.bl false) := by
  simp only [gAny, bools_const, Option.map_some, any_false]
theorem all_const (l : List D) : gAll (.lst (l.map fun _ => D.bl true)) = some (.bl true) := by
  simp only [gAll, bools_const, Option.map_some, all_true]
theorem mem_pairs : ∀ {p : Pt} {r : List Pt} {d : D}, Chain p r → d ∈ pairsOf p r → ∃ a b : Pt, d = .tup [ptD a, ptD b] ∧ a.1 < b.1
  | p, [], d, _, h => by cases h
  | p, q :: r, d, c, h => by
    rcases List.mem_cons.mp h with rfl | h
    · exact ⟨p, q, rfl, c.1⟩
    · exact mem_pairs c.2 h
def lastP : Pt → List Pt → Pt
  | p, [] => p
  | _, q :: r => lastP q r
theorem lastP_x : ∀ (p : Pt) (r : List Pt), (lastP p r).1 = lastX p r
  | _, [] => rfl
  | _, q :: r => lastP_x q r
theorem lastP_split : ∀ (p : Pt) (r : List Pt), ∃ xs, (p :: r).map ptD = xs ++ [ptD (lastP p r)]
  | p, [] => ⟨[], rfl⟩
  | p, q :: r => by
    obtain ⟨xs, h⟩ := lastP_split q r
    exact ⟨ptD p :: xs, by rw [List.map_cons, h]; rfl⟩
theorem at_last (p : Pt) (r : List Pt) : gIx (ptsD (p :: r)) (.int (-1)) = some (ptD (lastP p r)) := by
  show atI ((p :: r).map ptD) (-1) = _
  obtain ⟨xs, h⟩ := lastP_split p r
  rw [h]
  exact atI_last xs _
theorem r_are {p : Pt} {r : List Pt} (G : Good12 p r) : m_are_points [ptsD (p :: r)] = some (.ret (.bl true)) := by
  have T : seqOf (ptsD (p :: r)) = some ((p :: r).map ptD) := rfl
  have tl : ((p :: r).map ptD).length = r.length + 1 := by simp
  have g0 : gIx (ptsD (p :: r)) (.int 0) = some (ptD p) := ix_seq2 (T := ptsD (p :: r)) (ds := (p :: r).map ptD) (i := 0) rfl (by simp)
  have gl := at_last p r
  have px : gIx (ptD p) (.int 0) = some (.int 0) := by
    show some (D.int p.1) = _
    rw [G.x0]
  have lx : gIx (ptD (lastP p r)) (.int 0) = some (.int 255) := by
    show some (D.int (lastP p r).1) = _
    rw [lastP_x, G.xl]
  have len1 : 1 ≤ r.length := by
    cases r with
    | nil => exact absurd rfl G.ne
    | cons a b => simp
  have len2 := G.len
  have c1 : bd_are_points_2 [.dat (ptsD (p :: r)), .un, .un, .un, .un, .un] = some (.ok (((p :: r).map ptD).map fun _ => D.bl false) [.dat (ptsD (p :: r)), .un, .un, .un, .un, .un]) :=
    mlc_gen (f := fun _ => D.bl false) (ε' := [.dat (ptsD (p :: r)), .un, .un, .un, .un, .un]) rfl (by rw [tl]; omega) (fun d hd => by
      obtain ⟨q, _, rfl⟩ := List.mem_map.mp hd
      exact ⟨[ptD q], [.dat (ptsD (p :: r)), .dat (ptD q), .un, .un, .un, .un], rfl, rfl, rfl⟩) rfl
  have c2 : bd_are_points_4 [.dat (ptsD (p :: r)), .un, .un, .un, .un, .un] = some (.ok ((pairsOf p r).map fun _ => D.bl false) [.dat (ptsD (p :: r)), .un, .un, .un, .un, .un]) := by
    have pl : (pairsOf p r).length ≤ 1000000 := by
      rw [← zip_pairs, List.length_map, List.length_zip, List.length_map, List.length_map]; omega
    refine mlc_gen (f := fun _ => D.bl false) (ε' := [.dat (ptsD (p :: r)), .un, .un, .un, .un, .un]) (items := pairsOf p r) ?_ pl (fun d hd => ?_) rfl
    · have s := sl_tail (ptD p) (r.map ptD)
      rw [← zip_pairs]
      simp [mCons, mSl, mVar, bnd, pur, lft, asI, ptsD, s, zipD]
    · obtain ⟨a, b, rfl, hab⟩ := mem_pairs G.ch hd
      refine ⟨[ptD a, ptD b], [.dat (ptsD (p :: r)), .un, .dat (ptD a), .dat (ptD b), .un, .un], rfl, ?_, rfl⟩
      have n : ¬ b.1 ≤ a.1 := by omega
      have ga : gIx (ptD a) (.int 0) = some (.int a.1) := rfl
      have gb : gIx (ptD b) (.int 0) = some (.int b.1) := rfl
      show bd_are_points_3 [.dat (ptsD (p :: r)), .un, .dat (ptD a), .dat (ptD b), .un, .un] = _
      simp [bd_are_points_3, mOp, mVar, bnd, pur, lft, ga, gb, gLe, gI, n]
  have c3 : bd_are_points_6 [.dat (ptsD (p :: r)), .un, .un, .un, .un, .un] = some (.ok (((p :: r).map ptD).map fun _ => D.bl true) [.dat (ptsD (p :: r)), .un, .un, .un, .un, .un]) := by
    refine mlc_gen (f := fun _ => D.bl true) (ε' := [.dat (ptsD (p :: r)), .un, .un, .un, .un, .un]) rfl (by rw [tl]; omega) (fun d hd => ?_) rfl
    obtain ⟨q, hq, rfl⟩ := List.mem_map.mp hd
    refine ⟨[.int q.1, .int q.2], [.dat (ptsD (p :: r)), .un, .un, .un, .dat (.int q.1), .dat (.int q.2)], rfl, ?_, rfl⟩
    have y : 0 ≤ q.2 ∧ q.2 ≤ 255 := by
      rcases List.mem_cons.mp hq with rfl | hq
      · exact G.ys.1
      · exact G.ys.2 q hq
    show bd_are_points_5 [.dat (ptsD (p :: r)), .un, .un, .un, .dat (.int q.1), .dat (.int q.2)] = _
    exact chain_run rfl rfl (le_t y.1) rfl (le_t y.2)
  have ml : mLenN 0 [.dat (ptsD (p :: r)), .un, .un, .un, .un, .un] = some (.ok (.int ((r.length + 1 : Nat) : Int)) [.dat (ptsD (p :: r)), .un, .un, .un, .un, .un]) := by
    have := lenN_seq T 0 (ε := [.dat (ptsD (p :: r)), .un, .un, .un, .un, .un]) rfl
    rw [tl] at this
    exact this
  have i1 : (2 : Int) ≤ ((r.length + 1 : Nat) : Int) := by omega
  have i2 : ((r.length + 1 : Nat) : Int) ≤ 16 := by omega
  have a1 := any_const ((p :: r).map ptD)
  have a2 := any_const (pairsOf p r)
  have a3 := all_const ((p :: r).map ptD)
  have e : g_are_points [.dat (ptsD (p :: r)), .un, .un, .un, .un, .un] = some (.rt (.bl true) [.dat (ptsD (p :: r)), .un, .un, .un, .un, .un]) := by
    unfold g_are_points
    refine (seq_nx (if_not (chain_run rfl ml (le_t i1) rfl (le_t i2)))).trans ?_
    refine (seq_nx (ifS_no (mB_run (call_run (one_run (fz_run c1)) a1)))).trans ?_
    refine (seq_nx (ifS_no (or_ff (mB_run (op_run (op_run (op_run rfl rfl g0) rfl px) rfl (ne_f rfl))) (mB_run (op_run (op_run (op_run rfl (un_run (g := gNeg) (f := pur (.int 1)) (c := .int (-1)) rfl rfl) gl) rfl lx) rfl (ne_f rfl)))))).trans ?_
    refine (seq_nx (ifS_no (mB_run (call_run (one_run (fz_run c2)) a2)))).trans ?_
    exact ret_run (call_run (one_run (fz_run c3)) a3)
  exact congrArg ansOf e

def hD (p : Pt) (r : List Pt) : D := .tup ((p.2 :: hgo p r).map D.int)
def crv (p : Pt) (r : List Pt) : D := .ob "Curve" ["points", "_heights"] [ptsD (p :: r), hD p r]
theorem put_run {i : Nat} {c x : Str} {f : Mo D} {ε ε1 : List Ent} {d : D} {qs : List (Str × D)} (h : f ε = some (.ok d ε1)) (h0 : ε1[i]? = some (.ib (.ins c qs))) (hl : qs.length < 900) : mFldPut i c x f ε = some (.nx (ε1.set i (.ib (.ins c (putS x d qs))))) := by
  unfold mFldPut mThen; rw [h]; dsimp only; rw [h0]; dsimp only; rw [if_pos ⟨rfl, hl⟩]
theorem fldN_run {i : Nat} {c x : Str} {ε : List Ent} {qs : List (Str × D)} {d : D} (h : insAt c ε[i]? = some qs) (h2 : qs.lookup x = some d) : mFldN i c x ε = some (.ok d ε) := by
  unfold mFldN; rw [h]; dsimp only [Option.bind]; rw [h2]
theorem ins_ib {c : Str} {qs : List (Str × D)} : insAt c (some (.ib (.ins c qs))) = some qs := by
  unfold insAt; exact if_pos rfl
theorem put1 (d : D) : putS "points" d [] = [(("points" : Str), d)] := rfl
theorem put2 (d e : D) : putS "_heights" e [(("points" : Str), d)] = [(("points" : Str), d), (("_heights" : Str), e)] := by
  unfold putS
  rw [if_neg (by decide)]; rfl
theorem lk1 (d e : D) : List.lookup ("_heights" : Str) [(("points" : Str), d), ("_heights", e)] = some e := rfl
theorem lk0 (d e : D) : List.lookup ("points" : Str) [(("points" : Str), d), ("_heights", e)] = some d := rfl
theorem lk2 (d : D) : List.lookup ("points" : Str) [(("points" : Str), d)] = some d := rfl
theorem r_init {p : Pt} {r : List Pt} (G : Good12 p r) : m_Curve_init (.ins "Curve" []) [ptsD (p :: r)] = some (.ret .non, .ins "Curve" [("points", ptsD (p :: r)), ("_heights", hD p r)]) := by
  have e : g_Curve_init [.ib (.ins "Curve" []), .dat (ptsD (p :: r))] = some (.nx [.ib (.ins "Curve" [("points", ptsD (p :: r)), ("_heights", hD p r)]), .dat (ptsD (p :: r))]) := by
    unfold g_Curve_init
    refine (seq_nx (if_not (fn_run (one_run rfl) rfl (r_are G)))).trans ?_
    refine (seq_nx (put_run (call_run (one_run rfl) (d := ptsD (p :: r)) rfl) rfl (by decide))).trans ?_
    rw [put1]
    refine (put_run (fn_run (one_run (fldN_run (qs := [("points", ptsD (p :: r))]) (d := ptsD (p :: r)) ?_ (lk2 _))) rfl (r_heights G)) rfl (by simp)).trans ?_
    · exact ins_ib
    · show some (ResS.nx [.ib (.ins "Curve" (putS "_heights" (hD p r) [("points", ptsD (p :: r))])), .dat (ptsD (p :: r))]) = _
      rw [put2]
  exact congrArg outB e
theorem parts_crv (p : Pt) (r : List Pt) : partsOf "Curve" (crv p r) = some [(("points" : Str), ptsD (p :: r)), (("_heights" : Str), hD p r)] := by
  unfold partsOf crv
  dsimp only
  rw [if_pos rfl]; rfl
theorem make_crv {f : Mo D} {ε ε1 : List Ent} {p : Pt} {r : List Pt} (G : Good12 p r) (h : f ε = some (.ok (ptsD (p :: r)) ε1)) : mMake "Curve" 2 m_Curve_init (mCons f (pur [])) ε = some (.ok (crv p r) ε1) :=
  make_run (one_run h) rfl (r_init G)
theorem atI_nn {ds : List D} {v : Int} {d : D} (h : 0 ≤ v) (e : ds[v.toNat]? = some d) : atI ds v = some d := by
  obtain ⟨n, rfl⟩ := Int.eq_ofNat_of_zero_le h
  have e' : ds[n]? = some d := e
  obtain ⟨hn, hd⟩ := List.getElem?_eq_some_iff.mp e'
  have := ix_seq2 (T := .lst ds) (i := n) rfl hn
  rw [hd] at this
  exact this
theorem h_at {p : Pt} {r : List Pt} (G : Good12 p r) {v : Int} (h0 : 0 ≤ v) (h1 : v ≤ 255) : gIx (hD p r) (.int v) = some (.int (cv p r v)) := by
  show atI ((p.2 :: hgo p r).map D.int) v = _
  refine atI_nn h0 ?_
  rw [List.getElem?_map]
  have x0 := G.x0
  have xl := G.xl
  by_cases hv : v = 0
  · subst hv
    cases r with
    | nil => exact absurd rfl G.ne
    | cons q r =>
      have := cv_start (r := r) (G.ch.1)
      rw [x0] at this
      simp [this]
  · have hc := hgo_at (v := v) G.ch (by omega) (by omega)
    have e : v.toNat = (v - p.1 - 1).toNat + 1 := by omega
    rw [e, List.getElem?_cons_succ, hc]; rfl
theorem r_call {p : Pt} {r : List Pt} (G : Good12 p r) {v : Int} (h0 : 0 ≤ v) (h1 : v ≤ 255) : m_Curve_call [crv p r, .int v] = some (.ret (.int (cv p r v))) := by
  have e : g_Curve_call [.dat (crv p r), .dat (.int v)] = some (.rt (.int (cv p r v)) [.dat (crv p r), .dat (.int v)]) :=
    ret_run (op_run (fldN_run (parts_crv p r) (lk1 _ _)) rfl (h_at G h0 h1))
  exact congrArg ansOf e
def idP : Pt := (0, 0)
def idR : List Pt := [(255, 255)]
def ivP : Pt := (0, 255)
def ivR : List Pt := [(255, 0)]
theorem good_id : Good12 idP idR := by
  refine ⟨?_, ?_, ?_, ?_, ?_, ?_⟩ <;> simp [idP, idR, Chain, Ys, lastX]
theorem good_iv : Good12 ivP ivR := by
  refine ⟨?_, ?_, ?_, ?_, ?_, ?_⟩ <;> simp [ivP, ivR, Chain, Ys, lastX]
theorem cv_id {v : Int} (h : v ≤ 255) : cv idP idR v = v := by
  simp only [cv, idP, idR, seg]
  split <;> omega
theorem cv_iv {v : Int} (h : v ≤ 255) : cv ivP ivR v = 255 - v := by
  simp only [cv, ivP, ivR, seg]
  split <;> omega
theorem r_identity : m_Curve_identity [] = some (.ret (crv idP idR)) := by
  have e : g_Curve_identity [] = some (.rt (crv idP idR) []) := ret_run (make_crv good_id rfl)
  exact congrArg ansOf e
theorem r_inverted : m_Curve_inverted [] = some (.ret (crv ivP ivR)) := by
  have e : g_Curve_inverted [] = some (.rt (crv ivP ivR) []) := ret_run (make_crv good_iv rfl)
  exact congrArg ansOf e


/-! the law's curve -/
theorem pt0 (p : Pt) : gIx (ptD p) (.int 0) = some (.int p.1) := rfl
theorem pt1 (p : Pt) : gIx (ptD p) (.int 1) = some (.int p.2) := rfl
theorem at_pre (pre : List Pt) (p : Pt) (r : List Pt) : gIx (ptsD (pre ++ p :: r)) (.int (pre.length : Int)) = some (ptD p) := by
  have hl : pre.length < ((pre ++ p :: r).map ptD).length := by simp
  have := ix_seq2 (T := ptsD (pre ++ p :: r)) (ds := (pre ++ p :: r).map ptD) (i := pre.length) rfl hl
  rw [this]; simp
theorem rg_len {n : Nat} (h : n ≤ 1000) : rng1 [.int (n : Int)] = some ((List.range' 0 n).map fun (k : Nat) => D.int (k : Int)) := by
  rw [rng_nat n (Nat.le_trans h (by decide)), po_rng, List.range_eq_range']
theorem sub_one (n : Nat) : DL.gSub (.int ((n + 1 : Nat) : Int)) (.int 1) = some (.int (n : Int)) := by
  show some (D.int (((n + 1 : Nat) : Int) - 1)) = _
  rw [show (((n + 1 : Nat) : Int) - 1) = (n : Int) by omega]
/-! adjusted pixels -/
structure Cur where
  p : Pt
  r : List Pt
  G : Good12 p r
def Cur.pts (c : Cur) : D := ptsD (c.p :: c.r)
def Cur.ob (c : Cur) : D := crv c.p c.r
def Cur.at (c : Cur) (v : Int) : Int := cv c.p c.r v
theorem Cur.in (c : Cur) {v : Int} (h : 0 ≤ v) : 0 ≤ c.at v ∧ c.at v ≤ 255 := cv_in c.G.ch c.G.ys (by have := c.G.x0; omega)
theorem callO_run {c : Str} {n : Nat} {mm : List D → Option Ans} {fo : Mo D} {fa : Mo (List D)} {ε ε1 ε2 : List Ent} {d v : D} {ds : List D} {qs : List (Str × D)} (h1 : fo ε = some (.ok d ε1)) (h2 : partsOf c d = some qs) (h3 : fa ε1 = some (.ok ds ε2)) (hl : ds.length + 1 = n) (hm : mm (d :: ds) = some (.ret v)) : mCallO c n mm fo fa ε = some (.ok v ε2) := by
  unfold mCallO bnd; rw [h1]; dsimp only; rw [h2]; dsimp only; rw [h3]; dsimp only; rw [if_pos hl, hm]; rfl
theorem fn3_run {n : Nat} {m : List D → Option Ans} {f g h : Mo D} {ε ε1 ε2 ε3 : List Ent} {a b c d : D} (h1 : f ε = some (.ok a ε1)) (h2 : g ε1 = some (.ok b ε2)) (h3 : h ε2 = some (.ok c ε3)) (hl : 3 = n) (hm : m [a, b, c] = some (.ret d)) : mFn n m (mCons f (mCons g (mCons h (pur [])))) ε = some (.ok d ε3) := fn_run (cons_run h1 (two_run h2 h3)) hl hm
def cId : Cur := ⟨idP, idR, good_id⟩
def cIv : Cur := ⟨ivP, ivR, good_iv⟩
theorem fnQ_io {n : Nat} {m : List D → List D → Option (Ans × List D)} {fs : Mo (List D)} {ps ds ps' : List D} {es : List Ent} {d : D} (h : fs (.io ps :: es) = some (.ok ds (.io ps :: es))) (hl : ds.length + 1 = n) (hm : m ps ds = some (.ret d, ps')) : mFnQ 0 n m fs (.io ps :: es) = some (.ok d (.io ps' :: es)) := by
  unfold mFnQ
  simp only [List.getElem?_cons_zero, Option.bind_some, Ent.get, bnd, h, if_pos hl, hm, Ent.put, List.set_cons_zero]
theorem r_law_value (ps : List Int) : ∃ (v : Int) (qs : List Int), m_law_value (ps.map D.int) [] = some (.ret (.int v), qs.map D.int) ∧ 0 ≤ v ∧ v ≤ 255 := by
  obtain ⟨w, q1, t, w0, w1⟩ := r_take ps (m := 2) (by decide)
  have c1 : mFnQ 0 2 m_law_take (mCons (pur (.int 2)) (pur [])) [.io (ps.map D.int)] = some (.ok (.int w) [.io (q1.map D.int)]) := fnQ_io (one_run rfl) rfl t
  by_cases hw : w = 0
  · obtain ⟨j, q2, e, t2, hj, he⟩ := r_pick q1 (d := .tup [.int 255, .int 128, .int 1, .int 0]) rfl (by decide) (fun z h => nomatch h)
    have c2 : mFnQ 0 2 m_law_pick (mCons (mTup (mCons (pur (.int 255)) (mCons (pur (.int 128)) (mCons (pur (.int 1)) (mCons (pur (.int 0)) (pur [])))))) (pur [])) [.io (q1.map D.int)] = some (.ok e [.io (q2.map D.int)]) := fnQ_io (one_run rfl) rfl t2
    have go : m_law_value (ps.map D.int) [] = some (.ret e, q2.map D.int) := by
      refine runQ_go (ε := [.io (ps.map D.int)]) (es := []) rfl ?_
      unfold g_law_value
      exact seq_rt ((ifS_yes (mB_run (op_run c1 rfl (eq_t hw)))).trans (ret_run c2))
    have cs : ∃ v : Int, e = .int v ∧ 0 ≤ v ∧ v ≤ 255 := by
      match j, hj, he with
      | 0, _, h => cases h; exact ⟨_, rfl, by decide, by decide⟩
      | 1, _, h => cases h; exact ⟨_, rfl, by decide, by decide⟩
      | 2, _, h => cases h; exact ⟨_, rfl, by decide, by decide⟩
      | 3, _, h => cases h; exact ⟨_, rfl, by decide, by decide⟩
      | n + 4, h, _ => exact absurd h (by simp)
    obtain ⟨v, rfl, a, b⟩ := cs
    exact ⟨v, q2, go, a, b⟩
  · obtain ⟨v, q2, t2, a, b⟩ := r_take q1 (m := 256) (by decide)
    refine ⟨v, q2, ?_, a, by omega⟩
    have c2 : mFnQ 0 2 m_law_take (mCons (pur (.int 256)) (pur [])) [.io (q1.map D.int)] = some (.ok (.int v) [.io (q2.map D.int)]) := fnQ_io (one_run rfl) rfl t2
    refine runQ_go (ε := [.io (ps.map D.int)]) (es := []) rfl ?_
    unfold g_law_value
    exact (seq_nx (ifS_no (mB_run (op_run c1 rfl (eq_f hw))))).trans (ret_run c2)
/-! the drawn points -/
abbrev kq (h : Int × Int) : Key × D := (Sum.inl h.1, D.int h.2)
def putI (hs : List (Int × Int)) (x v : Int) : List (Int × Int) := if (hs.any fun h => decide (h.1 = x)) = true then hs.map (fun h => if h.1 = x then (h.1, v) else h) else hs ++ [(x, v)]
theorem any_kq (x : Int) : ∀ hs : List (Int × Int), ((hs.map kq).any fun kv => decide (kv.1 = Sum.inl x)) = (hs.any fun h => decide (h.1 = x))
  | [] => rfl
  | h :: r => by
    rw [List.map_cons, List.any_cons, List.any_cons, any_kq x r]
    congr 1
    simp [kq]
theorem map_kq (x v : Int) : ∀ hs : List (Int × Int), (hs.map kq).map (fun kv => if kv.1 = Sum.inl x then (kv.1, D.int v) else kv) = (hs.map (fun h => if h.1 = x then (h.1, v) else h)).map kq
  | [] => rfl
  | h :: r => by
    rw [List.map_cons, List.map_cons, List.map_cons, List.map_cons, map_kq x v r]
    congr 1
    by_cases e : h.1 = x
    · simp [kq, e]
    · simp [kq, e]
theorem putQ_I (hs : List (Int × Int)) (x v : Int) : putQ (hs.map kq) (.inl x) (.int v) = (putI hs x v).map kq := by
  unfold putQ putI
  rw [any_kq]
  by_cases h : (hs.any fun h => decide (h.1 = x)) = true
  · rw [if_pos h, if_pos h, map_kq]
  · rw [if_neg h, if_neg h, List.map_append]; rfl
structure Held (hs : List (Int × Int)) : Prop where
  nd : (hs.map Prod.fst).Nodup
  ks : ∀ h ∈ hs, 1 ≤ h.1 ∧ h.1 ≤ 254
  vs : ∀ h ∈ hs, 0 ≤ h.2 ∧ h.2 ≤ 255
theorem putI_fst (x v : Int) (hs : List (Int × Int)) : (hs.map (fun h => if h.1 = x then (h.1, v) else h)).map Prod.fst = hs.map Prod.fst := by
  rw [List.map_map]
  apply List.map_congr_left
  intro h _
  show (if h.1 = x then (h.1, v) else h).1 = h.1
  split <;> rfl
theorem Held.put {hs : List (Int × Int)} {x v : Int} (H : Held hs) (x1 : 1 ≤ x) (x2 : x ≤ 254) (v1 : 0 ≤ v) (v2 : v ≤ 255) : Held (putI hs x v) ∧ (putI hs x v).length ≤ hs.length + 1 := by
  unfold putI
  by_cases a : (hs.any fun h => decide (h.1 = x)) = true
  · rw [if_pos a]
    refine ⟨⟨by rw [putI_fst]; exact H.nd, fun h hh => ?_, fun h hh => ?_⟩, by rw [List.length_map]; omega⟩
    · obtain ⟨g, hg, rfl⟩ := List.mem_map.mp hh
      have := H.ks g hg
      split <;> exact this
    · obtain ⟨g, hg, rfl⟩ := List.mem_map.mp hh
      have := H.vs g hg
      split
      · exact ⟨v1, v2⟩
      · exact this
  · rw [if_neg a]
    have nx : x ∉ hs.map Prod.fst := fun z => by
      obtain ⟨g, hg, e⟩ := List.mem_map.mp z
      exact a (List.any_eq_true.mpr ⟨g, hg, by simp [e]⟩)
    refine ⟨⟨?_, fun h hh => ?_, fun h hh => ?_⟩, by rw [List.length_append]; exact Nat.le_refl _⟩
    · rw [List.map_append]
      refine List.nodup_append.mpr ⟨H.nd, by simp, ?_⟩
      intro y hy z hz
      simp only [List.map_cons, List.map_nil, List.mem_singleton] at hz
      subst hz
      exact fun e => nx (e ▸ hy)
    · rcases List.mem_append.mp hh with hh | hh
      · exact H.ks h hh
      · rw [List.mem_singleton] at hh; subst hh; exact ⟨x1, x2⟩
    · rcases List.mem_append.mp hh with hh | hh
      · exact H.vs h hh
      · rw [List.mem_singleton] at hh; subst hh; exact ⟨v1, v2⟩
theorem val_kq (x : Int) : ∀ hs : List (Int × Int), x ∈ hs.map Prod.fst → ∃ h ∈ hs, h.1 = x ∧ valQ (hs.map kq) (Sum.inl x) = some (.int h.2)
  | [], h => by cases h
  | g :: r, h => by
    by_cases e : g.1 = x
    · exact ⟨g, List.mem_cons_self .., e, by simp [valQ, kq, e]⟩
    · have hr : x ∈ r.map Prod.fst := by
        rcases List.mem_cons.mp h with h | h
        · exact absurd h.symm e
        · exact h
      obtain ⟨k, hk, ek, ev⟩ := val_kq x r hr
      refine ⟨k, List.mem_cons_of_mem _ hk, ek, ?_⟩
      rw [← ev]
      simp [valQ, kq, e]
abbrev pf (ps : List Int) (n last : Int) (hs : List (Int × Int)) (e4 e5 : Ent) : List Ent := [.io (ps.map D.int), .dat (.int n), .od (.dk (hs.map kq)), .dat (.int last), e4, e5, .un, .un]
theorem dput_run {i : Nat} {fv fk : Mo D} {ε ε1 ε2 : List Ent} {d : D} {k : Key} {kd : D} {qs0 q1 qs : List (Key × D)} (h0 : fv ε = some (.ok d ε1)) (h1 : dkAt ε1[i]? = some q1) (h2 : fk ε1 = some (.ok kd ε2)) (h3 : ε2[i]? = some (.od (.dk qs))) (hk : keyD kd = some k) (hl : qs.length < 1000000) : mDPut i fv fk ε = some (.nx (ε2.set i (.od (.dk (putQ qs k d))))) := by
  unfold mDPut mThen
  rw [h0]; dsimp only
  rw [h1]; dsimp only
  rw [h2]; dsimp only
  rw [h3, hk]; dsimp only
  rw [if_pos hl]
theorem p_x {ps : List Int} {n last : Int} {hs : List (Int × Int)} {e4 e5 : Ent} (l0 : 0 ≤ last) (l1 : last ≤ 254) : ∃ (x : Int) (qs : List Int), (mSeq (mSet 5 (mOp gAdd (pur (.int 1)) (mFnQ 0 2 m_law_take (mCons (pur (.int 254)) (pur [])))))
  (mSeq (mIfS (mB (mOp gEqS (mFnQ 0 2 m_law_take (mCons (pur (.int 3)) (pur []))) (pur (.int 2)))) (mSet 5 (mCall (gTwo gMin2) (mCons (pur (.int 254)) (mCons (mOp gAdd (mVar 3) (pur (.int 1))) (pur []))))) mNil)
  (mSeq (mDPut 2 (mFnQ 0 1 m_law_value (pur [])) (mVar 5))
  (mSet 3 (mVar 5))))) (pf ps n last hs e4 e5) = (mSeq (mDPut 2 (mFnQ 0 1 m_law_value (pur [])) (mVar 5))
  (mSet 3 (mVar 5))) (pf qs n last hs e4 (.dat (.int x))) ∧ 1 ≤ x ∧ x ≤ 254 := by
  obtain ⟨w, q1, t, w0, w1⟩ := r_take ps (m := 254) (by decide)
  obtain ⟨u, q2, t2, u0, u1⟩ := r_take q1 (m := 3) (by decide)
  have s1 : mSet 5 (mOp gAdd (pur (.int 1)) (mFnQ 0 2 m_law_take (mCons (pur (.int 254)) (pur [])))) (pf ps n last hs e4 e5) = some (.nx (pf q1 n last hs e4 (.dat (.int (1 + w))))) := by
    refine (set_run (op_run (b := .int w) rfl (fnQ_io (one_run rfl) rfl t) rfl)).trans ?_
    rfl
  have c2 : mFnQ 0 2 m_law_take (mCons (pur (.int 3)) (pur [])) (pf q1 n last hs e4 (.dat (.int (1 + w)))) = some (.ok (.int u) (pf q2 n last hs e4 (.dat (.int (1 + w))))) := fnQ_io (one_run rfl) rfl t2
  by_cases h : u = 2
  · refine ⟨if last + 1 < 254 then last + 1 else 254, q2, ?_, by split <;> omega, by split <;> omega⟩
    refine (seq_nx s1).trans (seq_nx ?_)
    refine (ifS_yes (mB_run (op_run c2 rfl (eq_t h)))).trans ?_
    refine (set_run (call_run (ds := [.int 254, .int (last + 1)]) (two_run rfl (op_run rfl rfl rfl)) rfl)).trans ?_
    rfl
  · refine ⟨1 + w, q2, ?_, by omega, by omega⟩
    refine (seq_nx s1).trans (seq_nx ?_)
    exact ifS_no (mB_run (op_run c2 rfl (eq_f h)))
theorem p_step {ps : List Int} {n last : Int} {hs : List (Int × Int)} {e4 e5 : Ent} (H : Held hs) (hl : hs.length < 1000) (l0 : 0 ≤ last) (l1 : last ≤ 254) :
    ∃ (qs : List Int) (hs' : List (Int × Int)) (last' : Int) (f5 : Ent), bd_law_points_1 (pf ps n last hs e4 e5) = some (.nx (pf qs n last' hs' e4 f5)) ∧ Held hs' ∧ hs'.length ≤ hs.length + 1 ∧ 0 ≤ last' ∧ last' ≤ 254 := by
  obtain ⟨x, q1, s, x0, x1⟩ := p_x (ps := ps) (n := n) (hs := hs) (e4 := e4) (e5 := e5) l0 l1
  obtain ⟨v, q2, t, v0, v1⟩ := r_law_value q1
  have P := H.put x0 x1 v0 v1
  refine ⟨q2, putI hs x v, x, .dat (.int x), ?_, P.1, P.2, by omega, x1⟩
  refine Eq.trans (by unfold bd_law_points_1; exact s) ?_
  have c : mFnQ 0 1 m_law_value (pur []) (pf q1 n last hs e4 (.dat (.int x))) = some (.ok (.int v) (pf q2 n last hs e4 (.dat (.int x)))) := fnQ_io rfl rfl t
  have d := dput_run (i := 2) (fk := mVar 5) (k := .inl x) (qs0 := []) (qs := hs.map kq) (q1 := hs.map kq) (kd := .int x) (ε2 := pf q2 n last hs e4 (.dat (.int x))) c rfl rfl rfl rfl (by rw [List.length_map]; omega)
  rw [putQ_I] at d
  exact (seq_nx d).trans rfl
theorem p_loop {n : Int} : ∀ (items : List D) (ps : List Int) (hs : List (Int × Int)) (last : Int) (e4 e5 : Ent), Held hs → hs.length + items.length < 1000 → 0 ≤ last → last ≤ 254 →
    ∃ (qs : List Int) (hs' : List (Int × Int)) (last' : Int) (f4 f5 : Ent), forGo (gdName 4) bd_law_points_1 items (pf ps n last hs e4 e5) = some (.nx (pf qs n last' hs' f4 f5)) ∧ Held hs' ∧ hs'.length ≤ hs.length + items.length
  | [], ps, hs, last, e4, e5, H, _, _, _ => ⟨ps, hs, last, e4, e5, rfl, H, Nat.le_refl _⟩
  | d :: r, ps, hs, last, e4, e5, H, hl, l0, l1 => by
    rw [List.length_cons] at hl
    obtain ⟨q1, h1, l', f5, s, H1, b1, b2, b3⟩ := p_step (ps := ps) (n := n) (e4 := .dat d) (e5 := e5) H (by omega) l0 l1
    obtain ⟨q2, h2, l'', g4, g5, s2, H2, b4⟩ := p_loop r q1 h1 l' (.dat d) f5 H1 (by omega) b2 b3
    exact ⟨q2, h2, l'', g4, g5, (for_step (i := 4) s).trans s2, H2, by rw [List.length_cons]; omega⟩
theorem ints_map : ∀ ns : List Int, intsOf (ns.map D.int) = some ns
  | [] => rfl
  | n :: r => by simp [intsOf, ints_map r]
theorem sorted_map (ns : List Int) : gSorted (.lst (ns.map D.int)) = some (.lst ((sortI ns).map D.int)) := by
  simp [gSorted, listInts, ints_map]
def Asc : Int → List Int → Prop
  | _, [] => True
  | a, b :: r => a < b ∧ Asc b r
theorem asc_of : ∀ {a : Int} {l : List Int}, (∀ x ∈ l, a < x ∧ x ≤ 254) → a < 255 → l.Pairwise (· < ·) → Asc a (l ++ [255])
  | a, [], _, h, _ => ⟨h, trivial⟩
  | a, b :: r, h, _, p => by
    have p1 := List.pairwise_cons.mp p
    have hb := h b (List.mem_cons_self ..)
    exact ⟨hb.1, asc_of (fun x hx => ⟨p1.1 x hx, (h x (List.mem_cons_of_mem _ hx)).2⟩) (by omega) p1.2⟩
theorem sort_lt {ks : List Int} (h : ks.Nodup) : (sortI ks).Pairwise (· < ·) := by
  have n := (sortI_perm ks).nodup_iff.mpr h
  have p := sortI_pw ks
  have := p.and n
  exact this.imp fun ⟨a, b⟩ => by omega
theorem zip_chain : ∀ (a y : Int) (l ys : List Int), Asc a l → Chain (a, y) (l.zip ys)
  | _, _, [], _, _ => trivial
  | _, _, b :: r, [], _ => trivial
  | _, _, b :: r, z :: zs, h => ⟨h.1, zip_chain b z r zs h.2⟩
theorem zip_last : ∀ (a y : Int) (l ys : List Int), ys.length = l.length + 1 → lastX (a, y) ((l ++ [255]).zip ys) = 255
  | _, _, [], [], h => by simp at h
  | _, _, [], z :: zs, _ => by cases zs <;> rfl
  | _, _, b :: r, [], h => by simp at h
  | _, _, b :: r, z :: zs, h => zip_last b z r zs (by simpa using h)
theorem zip_good {S : List Int} {y : Int} {ys : List Int} (hS : ∀ x ∈ S, 1 ≤ x ∧ x ≤ 254) (hp : S.Pairwise (· < ·)) (hl : ys.length = S.length + 1) (h14 : S.length ≤ 14) (hy : 0 ≤ y ∧ y ≤ 255) (hys : ∀ z ∈ ys, 0 ≤ z ∧ z ≤ 255) : Good12 (0, y) ((S ++ [255]).zip ys) where
  ch := zip_chain 0 y _ ys (asc_of (fun x hx => by have := hS x hx; omega) (by decide) hp)
  ys := ⟨hy, fun q hq => hys q.2 (List.of_mem_zip hq).2⟩
  x0 := rfl
  xl := zip_last 0 y S ys hl
  ne := fun h => by
    have := congrArg List.length h
    rw [List.length_zip, List.length_append, hl] at this
    simp at this
  len := by rw [List.length_zip, List.length_append]; simp; omega

theorem catO_run {f g : Mo D} {ε ε1 ε2 : List Ent} {x y : List D} (h1 : f ε = some (.ok (.lst x) ε1)) (h2 : g ε1 = some (.ok (.lst y) ε2)) (hl : x.length + y.length ≤ 1000000) : mCatO f g ε = some (.ok (x ++ y) ε2) := by
  unfold mCatO bnd lft
  rw [h1]; dsimp only
  rw [h2]; dsimp only
  rw [if_pos hl]
theorem cat_ok {x y : List D} (hl : x.length + y.length ≤ 1000000) : gCatL (.lst x) (.lst y) = some (.lst (x ++ y)) := if_pos hl
theorem lc_one {vs : List Nat} {t : Tg} {te : Mo D} {d y : D} {r acc ds : List D} {ε ε2 : List Ent} (h1 : t.parts d = some ds) (h2 : te (setL ε t.is ds) = some (.ok y ε2)) (hl : acc.length < 1000000) : lcGo vs t (pur true) te (d :: r) acc ε = lcGo vs t (pur true) te r (acc ++ [y]) (wipeE ε2 vs) := by
  show (match t.parts d with | none => none | some ds => match pur true (setL ε t.is ds) with | some (.ok true ε1) => (match te ε1 with | some (.ok y ε2) => if acc.length < 1000000 then lcGo vs t (pur true) te r (acc ++ [y]) (wipeE ε2 vs) else none | _ => none) | some (.ok false ε1) => lcGo vs t (pur true) te r acc (wipeE ε1 vs) | _ => none) = _
  rw [h1]
  dsimp only [pur]
  rw [h2]
  dsimp only
  rw [if_pos hl]
theorem mlc_two {vs : List Nat} {fi : Mo (List D)} {t : Tg} {te : Mo D} {f : D → D} {ε ε' ε1 ε2 ε3 : List Ent} {d : D} {ds items : List D} (hf : fi ε = some (.ok (d :: items) ε')) (hl : items.length < 1000000) (h0 : t.parts d = some ds) (h1 : te (setL (wipeE ε' vs) t.is ds) = some (.ok (f d) ε1)) (hw : wipeE ε1 vs = ε2) (h : ∀ d ∈ items, ∃ ds ε3, t.parts d = some ds ∧ te (setL ε2 t.is ds) = some (.ok (f d) ε3) ∧ wipeE ε3 vs = ε2) (hb : backE ε' ε2 vs = ε3) : mLc vs fi t (pur true) te ε = some (.ok ((d :: items).map f) ε3) := by
  have e := lc_gen (vs := vs) (t := t) (te := te) (f := f) (ε := ε2) items [f d] (by simp only [List.length_cons, List.length_nil]; omega) h
  have o := lc_one (vs := vs) (r := items) (acc := []) h0 h1 (by decide)
  rw [hw, List.nil_append, e] at o
  unfold mLc bnd
  rw [hf]
  dsimp only
  rw [o]
  dsimp only
  rw [hb]
  rfl
def bk : Ent → Ent
  | .dat d => .dat d
  | _ => .un
def hv (hs : List (Int × Int)) : D → D
  | .int x => (valQ (hs.map kq) (Sum.inl x)).getD .non
  | _ => .non
theorem hv_ys {hs : List (Int × Int)} (H : Held hs) : ∀ S : List Int, (∀ x ∈ S, x ∈ hs.map Prod.fst) → ∃ ys : List Int, (S.map D.int).map (hv hs) = ys.map D.int ∧ ys.length = S.length ∧ ∀ z ∈ ys, 0 ≤ z ∧ z ≤ 255
  | [], _ => ⟨[], rfl, rfl, fun z h => nomatch h⟩
  | x :: r, h => by
    obtain ⟨ys, e, l, b⟩ := hv_ys H r fun y hy => h y (List.mem_cons_of_mem _ hy)
    obtain ⟨k, hk, ek, ev⟩ := val_kq x hs (h x (List.mem_cons_self ..))
    refine ⟨k.2 :: ys, ?_, by rw [List.length_cons, List.length_cons, l], fun z hz => ?_⟩
    · rw [List.map_cons, List.map_cons, e, List.map_cons]
      congr 1
      show (valQ (hs.map kq) (Sum.inl x)).getD .non = _
      rw [ev]; rfl
    · rcases List.mem_cons.mp hz with rfl | hz
      · exact H.vs k hk
      · exact b z hz
theorem sl_mid (S : List Int) : gSlL (.lst ([D.int 0] ++ S.map D.int ++ [D.int 255])) (some 1) (some (-1)) = some (.lst (S.map D.int)) := by
  show some (D.lst (cutD ([D.int 0] ++ S.map D.int ++ [D.int 255]) (some 1) (some (-1)))) = _
  unfold cutD
  have l : ([D.int 0] ++ S.map D.int ++ [D.int 255]).length = S.length + 2 := by simp
  have a : HT.sIx (S.length + 2) 0 (some 1) = 1 := by
    have := HT.sIx_nat (S.length + 2) 0 1
    rw [show ((1 : Nat) : Int) = 1 from rfl] at this
    rw [this]; omega
  have b : HT.sIx (S.length + 2) (S.length + 2) (some (-1)) = S.length + 1 := by
    unfold HT.sIx
    dsimp only
    rw [if_pos (by decide)]
    omega
  rw [l, a, b]
  congr 2
  rw [List.append_assoc, List.singleton_append, List.drop_one, List.tail_cons]
  rw [List.take_left' (by simp)]
def zf (xs ys : List D) : D → D
  | .int k => .tup [(xs[k.toNat]?).getD .non, (ys[k.toNat]?).getD .non]
  | _ => .non
theorem zf_map (xs ys : List Int) (h : xs.length = ys.length) : ((List.range' 0 xs.length).map fun (k : Nat) => D.int (k : Int)).map (zf (xs.map D.int) (ys.map D.int)) = (xs.zip ys).map ptD := by
  rw [List.map_map]
  refine List.ext_getElem (by simp [h]) fun i h1 h2 => ?_
  have hx : i < xs.length := by simpa using h1
  have hy : i < ys.length := by omega
  simp [zf, ptD, hx, hy]
abbrev qf (ps : List Int) (n last : Int) (hs : List (Int × Int)) (e4 e5 e6 e7 : Ent) : List Ent := [.io (ps.map D.int), .dat (.int n), .od (.dk (hs.map kq)), .dat (.int last), e4, e5, e6, e7]
def Y7 (ys : List D) (e : Ent) : Prop := e = .own ys ∨ e = .dat (.lst ys)
theorem keys_kq (hs : List (Int × Int)) : ((hs.map kq).map fun q => keyAsD q.1) = (hs.map Prod.fst).map D.int := by
  rw [List.map_map, List.map_map]
  rfl
theorem p_many (ps : List Int) : ∃ (n : Nat) (qs : List Int), (∀ (m : MoS), (mSeq (mSet 1 (mFnQ 0 2 m_law_take (mCons (pur (.int 5)) (pur []))))
  (mSeq (mIfS (mB (mOp gEqS (mFnQ 0 2 m_law_take (mCons (pur (.int 9)) (pur []))) (pur (.int 8)))) (mSet 1 (mFnQ 0 2 m_law_take (mCons (pur (.int 15)) (pur [])))) mNil) m)) [.io (ps.map D.int), .un, .un, .un, .un, .un, .un, .un] = m [.io (qs.map D.int), .dat (.int (n : Int)), .un, .un, .un, .un, .un, .un]) ∧ n ≤ 14 := by
  obtain ⟨w, q1, t, w0, w1⟩ := r_take ps (m := 5) (by decide)
  obtain ⟨u, q2, t2, u0, u1⟩ := r_take q1 (m := 9) (by decide)
  have s1 : mSet 1 (mFnQ 0 2 m_law_take (mCons (pur (.int 5)) (pur []))) [.io (ps.map D.int), .un, .un, .un, .un, .un, .un, .un] = some (.nx [.io (q1.map D.int), .dat (.int w), .un, .un, .un, .un, .un, .un]) := (set_run (fnQ_io (one_run rfl) rfl t)).trans rfl
  have c2 : mFnQ 0 2 m_law_take (mCons (pur (.int 9)) (pur [])) [.io (q1.map D.int), .dat (.int w), .un, .un, .un, .un, .un, .un] = some (.ok (.int u) [.io (q2.map D.int), .dat (.int w), .un, .un, .un, .un, .un, .un]) := fnQ_io (one_run rfl) rfl t2
  by_cases h : u = 8
  · obtain ⟨x, q3, t3, x0, x1⟩ := r_take q2 (m := 15) (by decide)
    obtain ⟨n, rfl⟩ := Int.eq_ofNat_of_zero_le x0
    refine ⟨n, q3, fun m => ?_, by omega⟩
    refine (seq_nx s1).trans (seq_nx ?_)
    refine (ifS_yes (mB_run (op_run c2 rfl (eq_t h)))).trans ?_
    exact (set_run (fnQ_io (one_run rfl) rfl t3)).trans rfl
  · obtain ⟨n, rfl⟩ := Int.eq_ofNat_of_zero_le w0
    refine ⟨n, q2, fun m => ?_, by omega⟩
    refine (seq_nx s1).trans (seq_nx ?_)
    exact ifS_no (mB_run (op_run c2 rfl (eq_f h)))
theorem p_held (ps : List Int) : ∃ (n : Nat) (qs : List Int) (hs : List (Int × Int)) (last : Int) (f4 f5 : Ent), (∀ (m : MoS), (mSeq (mSet 1 (mFnQ 0 2 m_law_take (mCons (pur (.int 5)) (pur []))))
  (mSeq (mIfS (mB (mOp gEqS (mFnQ 0 2 m_law_take (mCons (pur (.int 9)) (pur []))) (pur (.int 8)))) (mSet 1 (mFnQ 0 2 m_law_take (mCons (pur (.int 15)) (pur [])))) mNil)
  (mSeq (mNewB 2 (.dk []))
  (mSeq (mSet 3 (pur (.int 0)))
  (mSeq (mFor (bnd (mCons (mVar 1) (pur [])) fun ds => lft (rng1 ds)) (gdName 4) bd_law_points_1) m))))) [.io (ps.map D.int), .un, .un, .un, .un, .un, .un, .un] = m (qf qs n last hs f4 f5 .un .un)) ∧ Held hs ∧ hs.length ≤ 14 := by
  obtain ⟨n, q1, s, hn⟩ := p_many ps
  obtain ⟨q2, hs, last, f4, f5, e, H, hl⟩ := p_loop (n := (n : Int)) ((List.range' 0 n).map fun (k : Nat) => D.int (k : Int)) q1 [] 0 .un .un ⟨by simp, fun h z => (nomatch z), fun h z => (nomatch z)⟩ (by simp; omega) (by decide) (by decide)
  refine ⟨n, q2, hs, last, f4, f5, fun m => ?_, H, by simp at hl; omega⟩
  refine (s _).trans ((seq_nx rfl).trans ((seq_nx (set_run rfl)).trans ?_))
  exact seq_nx ((for_run (it_run (one_run rfl) (rg_len (by omega)))).trans e)

theorem p_xs {ps : List Int} {n last : Int} {hs : List (Int × Int)} {f4 f5 : Ent} (hl : hs.length ≤ 14) : mSetO 6 (mCatO (mOp gCatL (mLst (mCons (pur (.int 0)) (pur []))) (mCall (gOne gSorted) (mCons (mFz (mKeys 2 5)) (pur [])))) (mLst (mCons (pur (.int 255)) (pur [])))) (qf ps n last hs f4 f5 .un .un) = some (.nx (qf ps n last hs f4 f5 (.own ([D.int 0] ++ (sortI (hs.map Prod.fst)).map D.int ++ [D.int 255])) .un)) := by
  have sl : (sortI (hs.map Prod.fst)).length = hs.length := by rw [(sortI_perm _).length_eq, List.length_map]
  have k : mKeys 2 5 (qf ps n last hs f4 f5 .un .un) = some (.ok ((hs.map Prod.fst).map D.int) (qf ps n last hs f4 f5 .un .un)) := by
    rw [← keys_kq]
    show (if (hs.map kq).length ≤ 1000000 ∧ 5 < 8 then some _ else none) = _
    rw [if_pos ⟨by rw [List.length_map]; omega, by decide⟩]
  refine (setO_run (catO_run (op_run (lst_run (one_run rfl) (by simp)) (call_run (one_run (fz_run k)) (sorted_map _)) (cat_ok (by simp [sl]; omega))) (lst_run (one_run rfl) (by simp)) (by simp [sl]; omega))).trans ?_
  rfl
theorem p_mid {ps : List Int} {n last : Int} {hs : List (Int × Int)} {f4 f5 : Ent} {S : List Int} (H : Held hs) (hS : ∀ x ∈ S, x ∈ hs.map Prod.fst) (hl : S.length ≤ 14) : bd_law_points_3 (qf ps n last hs f4 f5 (.own ([D.int 0] ++ S.map D.int ++ [D.int 255])) .un) = some (.ok ((S.map D.int).map (hv hs)) (qf ps n last hs f4 (bk f5) (.dat (.lst ([D.int 0] ++ S.map D.int ++ [D.int 255]))) .un)) := by
  unfold bd_law_points_3
  refine mlc_gen (f := hv hs) (ε' := qf ps n last hs f4 f5 (.dat (.lst ([D.int 0] ++ S.map D.int ++ [D.int 255]))) .un) ?_ (by rw [List.length_map]; omega) (fun d hd => ?_) ?_
  · refine it_run (g := lstOf) (a := .lst (S.map D.int)) ?_ rfl
    unfold mSl
    simp only [mVar, bnd, pur, lft, mUn, gNeg, asI, List.getElem?_cons_succ, List.getElem?_cons_zero, List.set_cons_succ, List.set_cons_zero, Option.map_some, sl_mid]
  · obtain ⟨x, hx, rfl⟩ := List.mem_map.mp hd
    obtain ⟨h, hh, e, ev⟩ := val_kq x hs (hS x hx)
    refine ⟨[.int x], qf ps n last hs f4 (.dat (.int x)) (.dat (.lst ([D.int 0] ++ S.map D.int ++ [D.int 255]))) .un, rfl, ?_, rfl⟩
    have hv' : hv hs (.int x) = .int h.2 := by show (valQ (hs.map kq) (Sum.inl x)).getD .non = _; rw [ev]; rfl
    rw [hv']
    show mDGet 2 (mVar 5) (qf ps n last hs f4 (.dat (.int x)) (.dat (.lst ([D.int 0] ++ S.map D.int ++ [D.int 255]))) .un) = _
    show (match valQ (hs.map kq) (Sum.inl x) with | some v => some (Res.ok v _) | none => none) = _
    rw [ev]
  · cases f5 <;> rfl

theorem p_ys {ps : List Int} {n last : Int} {hs : List (Int × Int)} {f4 f5 : Ent} {S : List Int} (H : Held hs) (hS : ∀ x ∈ S, x ∈ hs.map Prod.fst) (hl : S.length ≤ 14) : ∃ (Y qs : List Int), mSetO 7 (mCatO (mOp gCatL (mLst (mCons (mFnQ 0 1 m_law_value (pur [])) (pur []))) (mFz bd_law_points_3)) (mLst (mCons (mFnQ 0 1 m_law_value (pur [])) (pur [])))) (qf ps n last hs f4 f5 (.own ([D.int 0] ++ S.map D.int ++ [D.int 255])) .un) = some (.nx (qf qs n last hs f4 (bk f5) (.dat (.lst ([D.int 0] ++ S.map D.int ++ [D.int 255]))) (.own (Y.map D.int)))) ∧ Y.length = S.length + 2 ∧ ∀ z ∈ Y, 0 ≤ z ∧ z ≤ 255 := by
  obtain ⟨v, q1, t, v0, v1⟩ := r_law_value ps
  obtain ⟨u, q2, t2, u0, u1⟩ := r_law_value q1
  obtain ⟨ys, e, l, b⟩ := hv_ys H S hS
  have m := p_mid (ps := q1) (n := n) (last := last) (f4 := f4) (f5 := f5) H hS hl
  rw [e] at m
  refine ⟨[v] ++ ys ++ [u], q2, ?_, by simp [l], fun z hz => ?_⟩
  · have c1 : mFnQ 0 1 m_law_value (pur []) (qf ps n last hs f4 f5 (.own ([D.int 0] ++ S.map D.int ++ [D.int 255])) .un) = some (.ok (.int v) (qf q1 n last hs f4 f5 (.own ([D.int 0] ++ S.map D.int ++ [D.int 255])) .un)) := fnQ_io rfl rfl t
    have c2 : mFnQ 0 1 m_law_value (pur []) (qf q1 n last hs f4 (bk f5) (.dat (.lst ([D.int 0] ++ S.map D.int ++ [D.int 255]))) .un) = some (.ok (.int u) (qf q2 n last hs f4 (bk f5) (.dat (.lst ([D.int 0] ++ S.map D.int ++ [D.int 255]))) .un)) := fnQ_io rfl rfl t2
    refine (setO_run (catO_run (op_run (lst_run (one_run c1) (by simp)) (fz_run m) (cat_ok (by simp [l]; omega))) (lst_run (one_run c2) (by simp)) (by simp [l]; omega))).trans ?_
    rw [List.map_append, List.map_append]
    rfl
  · rcases List.mem_append.mp hz with hz | hz
    · rcases List.mem_append.mp hz with hz | hz
      · rw [List.mem_singleton] at hz; subst hz; exact ⟨v0, v1⟩
      · exact b z hz
    · rw [List.mem_singleton] at hz; subst hz; exact ⟨u0, u1⟩
theorem var_y7 {ps : List Int} {n last : Int} {hs : List (Int × Int)} {f4 f5 f6 f7 : Ent} {ys : List D} (h : Y7 ys f7) : mVar 7 (qf ps n last hs f4 f5 f6 f7) = some (.ok (.lst ys) (qf ps n last hs f4 f5 f6 (.dat (.lst ys)))) := by
  rcases h with rfl | rfl <;> rfl
theorem p_sort {ps : List Int} {n last : Int} {hs : List (Int × Int)} {f4 f5 f6 : Ent} {Y : List Int} (hy : ∀ z ∈ Y, 0 ≤ z ∧ z ≤ 255) : ∃ (Z qs : List Int) (e7 : Ent), mIfS (mB (mOp gEqS (mFnQ 0 2 m_law_take (mCons (pur (.int 3)) (pur []))) (pur (.int 2)))) (mSet 7 (mCall (gOne gSorted) (mCons (mVar 7) (pur [])))) mNil (qf ps n last hs f4 f5 f6 (.own (Y.map D.int))) = some (.nx (qf qs n last hs f4 f5 f6 e7)) ∧ Y7 (Z.map D.int) e7 ∧ Z.length = Y.length ∧ ∀ z ∈ Z, 0 ≤ z ∧ z ≤ 255 := by
  obtain ⟨w, q1, t, w0, w1⟩ := r_take ps (m := 3) (by decide)
  have c : mFnQ 0 2 m_law_take (mCons (pur (.int 3)) (pur [])) (qf ps n last hs f4 f5 f6 (.own (Y.map D.int))) = some (.ok (.int w) (qf q1 n last hs f4 f5 f6 (.own (Y.map D.int)))) := fnQ_io (one_run rfl) rfl t
  by_cases h : w = 2
  · refine ⟨sortI Y, q1, .dat (.lst ((sortI Y).map D.int)), ?_, .inr rfl, (sortI_perm Y).length_eq, fun z hz => hy z ((sortI_perm Y).mem_iff.mp hz)⟩
    refine (ifS_yes (mB_run (op_run c rfl (eq_t h)))).trans ?_
    exact (set_run (call_run (one_run (var_y7 (.inl rfl))) (sorted_map Y))).trans rfl
  · exact ⟨Y, q1, .own (Y.map D.int), ifS_no (mB_run (op_run c rfl (eq_f h))), .inl rfl, rfl, hy⟩
theorem p_item {ps : List Int} {n last : Int} {hs : List (Int × Int)} {f5 f7 : Ent} {xs ys : List D} {k : Nat} (h : Y7 ys f7) (hx : k < xs.length) (hy : k < ys.length) : bd_law_points_4 (qf ps n last hs (.dat (.int (k : Int))) f5 (.dat (.lst xs)) f7) = some (.ok (zf xs ys (.int (k : Int))) (qf ps n last hs (.dat (.int (k : Int))) f5 (.dat (.lst xs)) (.dat (.lst ys)))) := by
  have gx : gIx (.lst xs) (.int (k : Int)) = some ((xs[k]?).getD .non) := by
    rw [ix_seq2 (T := .lst xs) rfl hx, List.getElem?_eq_getElem hx]; rfl
  have gy : gIx (.lst ys) (.int (k : Int)) = some ((ys[k]?).getD .non) := by
    rw [ix_seq2 (T := .lst ys) rfl hy, List.getElem?_eq_getElem hy]; rfl
  unfold bd_law_points_4
  refine (tup_run (two_run (op_run rfl rfl gx) (op_run (var_y7 h) rfl gy)) (by simp)).trans ?_
  rfl
theorem p_tup {ps : List Int} {n last : Int} {hs : List (Int × Int)} {f4 f5 f7 : Ent} {X Y : List Int} (h : Y7 (Y.map D.int) f7) (hl : X.length = Y.length) (h0 : 0 < X.length) (hm : X.length ≤ 1000) : bd_law_points_5 (qf ps n last hs f4 f5 (.dat (.lst (X.map D.int))) f7) = some (.ok ((X.zip Y).map ptD) (qf ps n last hs (bk f4) f5 (.dat (.lst (X.map D.int))) (.dat (.lst (Y.map D.int))))) := by
  rw [← zf_map X Y hl]
  unfold bd_law_points_5
  obtain ⟨m, em⟩ : ∃ m, X.length = m + 1 := ⟨X.length - 1, by omega⟩
  have ln : mLenN 6 (qf ps n last hs f4 f5 (.dat (.lst (X.map D.int))) f7) = some (.ok (.int ((X.length : Nat) : Int)) (qf ps n last hs f4 f5 (.dat (.lst (X.map D.int))) f7)) := by
    have := lenN_seq (T := .lst (X.map D.int)) (ds := X.map D.int) rfl 6 (ε := qf ps n last hs f4 f5 (.dat (.lst (X.map D.int))) f7) rfl
    rw [List.length_map] at this
    exact this
  have it := it_run (g := rng1) (one_run ln) (rg_len hm)
  rw [em, List.range'_succ, List.map_cons] at it ⊢
  refine mlc_two (f := zf (X.map D.int) (Y.map D.int)) (ε' := qf ps n last hs f4 f5 (.dat (.lst (X.map D.int))) f7) (ε1 := qf ps n last hs (.dat (.int ((0 : Nat) : Int))) f5 (.dat (.lst (X.map D.int))) (.dat (.lst (Y.map D.int)))) (ε2 := qf ps n last hs .un f5 (.dat (.lst (X.map D.int))) (.dat (.lst (Y.map D.int)))) (ds := [.int ((0 : Nat) : Int)]) it (by simp; omega) rfl ?_ rfl (fun d hd => ?_) ?_
  · exact p_item h (by simp; omega) (by simp; omega)
  · obtain ⟨k, hk, rfl⟩ := List.mem_map.mp hd
    have hk2 := (List.mem_range'_1.mp hk).2
    exact ⟨[.int (k : Int)], _, rfl, p_item (.inr rfl) (by simp; omega) (by simp; omega), rfl⟩
  · cases f4 <;> rfl
theorem r_points (ps : List Int) : ∃ (c : Cur) (qs : List Int), m_law_points (ps.map D.int) [] = some (.ret c.pts, qs.map D.int) := by
  obtain ⟨n, q1, hs, last, f4, f5, s, H, hl⟩ := p_held ps
  have hS : ∀ x ∈ sortI (hs.map Prod.fst), x ∈ hs.map Prod.fst := fun x hx => (sortI_perm _).mem_iff.mp hx
  have sl : (sortI (hs.map Prod.fst)).length ≤ 14 := by rw [(sortI_perm _).length_eq, List.length_map]; exact hl
  have sp := sort_lt H.nd
  have sb : ∀ x ∈ sortI (hs.map Prod.fst), 1 ≤ x ∧ x ≤ 254 := fun x hx => by
    obtain ⟨g, hg, rfl⟩ := List.mem_map.mp (hS x hx)
    exact H.ks g hg
  have s6 := p_xs (ps := q1) (n := n) (last := last) (f4 := f4) (f5 := f5) hl
  generalize sortI (hs.map Prod.fst) = S at *
  obtain ⟨Y, q2, s7, yl, yb⟩ := p_ys (ps := q1) (n := n) (last := last) (f4 := f4) (f5 := f5) H hS sl
  obtain ⟨Z, q3, e7, s8, h7, zl, zb⟩ := p_sort (ps := q2) (n := n) (last := last) (hs := hs) (f4 := f4) (f5 := bk f5) (f6 := .dat (.lst ([D.int 0] ++ S.map D.int ++ [D.int 255]))) yb
  have ex : [D.int 0] ++ S.map D.int ++ [D.int 255] = (0 :: (S ++ [255])).map D.int := by simp
  have tp := p_tup (ps := q3) (n := n) (last := last) (hs := hs) (f4 := f4) (f5 := bk f5) (X := 0 :: (S ++ [255])) h7 (by simp; omega) (by simp) (by simp; omega)
  rw [← ex] at tp
  cases Z with
  | nil => simp at zl; omega
  | cons y ys =>
    have G := zip_good sb sp (y := y) (ys := ys) (by simp at zl; omega) sl (zb y (List.mem_cons_self ..)) (fun z hz => zb z (List.mem_cons_of_mem _ hz))
    refine ⟨⟨(0, y), (S ++ [255]).zip ys, G⟩, q3, ?_⟩
    refine runQ_go (ε := [.io (ps.map D.int), .un, .un, .un, .un, .un, .un, .un]) rfl (es := [.dat (.int n), .od (.dk (hs.map kq)), .dat (.int last), bk f4, bk f5, .dat (.lst ([D.int 0] ++ S.map D.int ++ [D.int 255])), .dat (.lst ((y :: ys).map D.int))]) ?_
    unfold g_law_points
    refine (s _).trans ((seq_nx s6).trans ((seq_nx s7).trans ((seq_nx s8).trans ?_)))
    exact ret_run (call_run (one_run (fz_run tp)) rfl)


/-! == of curves -/
def pd (p : Pt) : PyData := .tuple [.int p.1, .int p.2]
theorem toPy_pt (p : Pt) : toPy (ptD p) = some (pd p) := by simp [ptD, pd, toPy, toPyL]
theorem toPyL_pts : ∀ ps : List Pt, toPyL (ps.map ptD) = some (ps.map pd)
  | [] => by simp [toPyL]
  | p :: r => by
    rw [List.map_cons, toPyL, toPy_pt, toPyL_pts r]; rfl
theorem toPy_pts (ps : List Pt) : toPy (ptsD ps) = some (.tuple (ps.map pd)) := by
  unfold ptsD toPy
  rw [toPyL_pts]; rfl
theorem lay_pts : ∀ ps : List Pt, PyData.canLayAll0 (ps.map pd) = true
  | [] => by simp [PyData.canLayAll0]
  | p :: r => by
    rw [List.map_cons, PyData.canLayAll0, lay_pts r]
    simp [pd, PyData.canLay0, PyData.canLayAll0]
theorem dep_pt (p : Pt) : PyData.depth (pd p) ≤ 2 := by
  simp [pd, PyData.depth, PyData.depthAll]
theorem dep_pts : ∀ ps : List Pt, PyData.depthAll (ps.map pd) ≤ 2
  | [] => by simp [PyData.depthAll]
  | p :: r => by
    rw [List.map_cons, PyData.depthAll]
    have := dep_pts r
    have := dep_pt p
    omega
theorem shaped_pts (ps : List Pt) : SeqAt.shaped (.tuple (ps.map pd)) = true := by
  have h := lay_pts ps
  have d := dep_pts ps
  unfold SeqAt.shaped
  have e1 : PyData.canLay0 (.tuple (ps.map pd)) = true := by simp [PyData.canLay0, h]
  have e2 : PyData.depth (.tuple (ps.map pd)) ≤ 64 := by
    simp only [PyData.depth]
    omega
  rw [e1]
  simp [e2]
theorem eqv_pt (p q : Pt) : PyData.eqv (pd p) (pd q) = decide (p = q) := by
  obtain ⟨a, b⟩ := p
  obtain ⟨c, d⟩ := q
  simp [pd, PyData.eqv, PyData.eqvAll]
  by_cases h : a = c <;> by_cases h2 : b = d <;> simp [h, h2]
theorem eqv_pts : ∀ ps qs : List Pt, PyData.eqvAll (ps.map pd) (qs.map pd) = decide (ps = qs)
  | [], [] => by simp [PyData.eqvAll]
  | [], _ :: _ => by simp [PyData.eqvAll]
  | _ :: _, [] => by simp [PyData.eqvAll]
  | p :: r, q :: t => by
    rw [List.map_cons, List.map_cons, PyData.eqvAll, eqv_pts r t, eqv_pt]
    by_cases h : p = q <;> by_cases h2 : r = t <;> simp [h, h2]
theorem gEq_pts (ps qs : List Pt) : gEq (ptsD ps) (ptsD qs) = some (.bl (decide (ps = qs))) := by
  unfold gEq
  rw [toPy_pts, toPy_pts]
  simp only [Option.bind_some, shaped_pts, and_self, if_true]
  rw [show PyData.eqv (.tuple (ps.map pd)) (.tuple (qs.map pd)) = PyData.eqvAll (ps.map pd) (qs.map pd) by simp [PyData.eqv], eqv_pts]
theorem isO_ob (c : Cur) : isO "Curve" c.ob = some (.bl true) := by
  unfold isO
  rw [show partsOf "Curve" c.ob = _ from parts_crv c.p c.r]
theorem isO_tup (ds : List D) : isO "Curve" (.tup ds) = some (.bl false) := rfl
theorem isO_run {f : Mo D} {ε ε1 : List Ent} {d e : D} {c : Str} (h : f ε = some (.ok d ε1)) (h2 : isO c d = some e) : mIsO c f ε = some (.ok e ε1) := by
  unfold mIsO bnd lft
  rw [h]; dsimp only
  rw [h2]
theorem and_t {f g : Mo D} {ε ε1 ε2 : List Ent} {d : D} (h : f ε = some (.ok (.bl true) ε1)) (h2 : g ε1 = some (.ok d ε2)) : mAndV f g ε = some (.ok d ε2) := by
  unfold mAndV bnd
  rw [mB_run h]; dsimp only
  rw [if_pos rfl]; exact h2
theorem and_f {f g : Mo D} {ε ε1 : List Ent} (h : f ε = some (.ok (.bl false) ε1)) : mAndV f g ε = some (.ok (.bl false) ε1) := by
  unfold mAndV bnd
  rw [mB_run h]; rfl
def Cur.ps (c : Cur) : List Pt := c.p :: c.r
theorem fldN_pts (i : Nat) (c : Cur) {ε : List Ent} (h : ε[i]? = some (.dat c.ob)) : mFldN i "Curve" "points" ε = some (.ok c.pts ε) :=
  fldN_run (by rw [h]; exact parts_crv _ _) (lk0 _ _)
theorem r_eq (c d : Cur) : m_Curve_eq [c.ob, d.ob] = some (.ret (.bl (decide (c.ps = d.ps)))) := by
  have e : g_Curve_eq [.dat c.ob, .dat d.ob] = some (.rt (.bl (decide (c.ps = d.ps))) [.dat c.ob, .dat d.ob]) :=
    ret_run (and_t (isO_run rfl (isO_ob d)) (op_run (fldN_pts 0 c rfl) (fldN_pts 1 d rfl) (gEq_pts _ _)))
  exact congrArg ansOf e
theorem r_eqT (c : Cur) (ds : List D) : m_Curve_eq [c.ob, .tup ds] = some (.ret (.bl false)) := by
  have e : g_Curve_eq [.dat c.ob, .dat (.tup ds)] = some (.rt (.bl false) [.dat c.ob, .dat (.tup ds)]) :=
    ret_run (and_f (isO_run rfl (isO_tup ds)))
  exact congrArg ansOf e
theorem eqO_run {mm : List D → Option Ans} {f g : Mo D} {ε ε1 ε2 : List Ent} {d e w : D} {c : Str} {qs : List (Str × D)} (h1 : f ε = some (.ok d ε1)) (hp : partsOf c d = some qs) (h2 : g ε1 = some (.ok e ε2)) (ht : (tyName e).isSome = true ∨ (partsOf c e).isSome = true) (hm : mm [d, e] = some (.ret w)) : mEqO c mm f g ε = some (.ok w ε2) := by
  unfold mEqO bnd
  rw [h1]; dsimp only
  rw [hp]; dsimp only
  rw [h2]; dsimp only
  rw [if_pos ht, hm]; rfl
theorem eqC_run {f g : Mo D} {ε ε1 ε2 : List Ent} {c d : Cur} (h1 : f ε = some (.ok c.ob ε1)) (h2 : g ε1 = some (.ok d.ob ε2)) : mEqO "Curve" m_Curve_eq f g ε = some (.ok (.bl (decide (c.ps = d.ps))) ε2) :=
  eqO_run h1 (parts_crv _ _) h2 (.inr (by rw [show partsOf "Curve" d.ob = _ from parts_crv d.p d.r]; rfl)) (r_eq c d)
theorem eqT_run {f g : Mo D} {ε ε1 ε2 : List Ent} {c : Cur} {ds : List D} (h1 : f ε = some (.ok c.ob ε1)) (h2 : g ε1 = some (.ok (.tup ds) ε2)) : mEqO "Curve" m_Curve_eq f g ε = some (.ok (.bl false) ε2) :=
  eqO_run h1 (parts_crv _ _) h2 (.inl rfl) (r_eqT c ds)
theorem ok_pts (c : Cur) : okD 3 c.pts := by
  have l := c.G.len
  refine ⟨by rw [List.length_map, List.length_cons]; omega, fun e he => ?_⟩
  obtain ⟨q, _, rfl⟩ := List.mem_map.mp he
  refine ⟨(by simp : [D.int q.1, D.int q.2].length ≤ 1000000), fun d hd => ?_⟩
  simp at hd
  rcases hd with rfl | rfl <;> trivial
theorem same_pts (c : Cur) : m_law_same [c.pts, c.pts] = some (.ret (.bl true)) := r_sameD 3 _ (ok_pts c)
theorem same_bl (b : Bool) : m_law_same [.bl b, .bl b] = some (.ret (.bl true)) := r_sameD 3 _ trivial
theorem same_int (i : Int) : m_law_same [.int i, .int i] = some (.ret (.bl true)) := r_sameD 3 _ trivial
theorem r_is (c : Cur) : m_law_is [c.ob, c.pts] = some (.ret (.bl true)) := by
  have e : g_law_is [.dat c.ob, .dat c.pts] = some (.rt (.bl true) [.dat c.ob, .dat c.pts]) :=
    ret_run (and_t (isO_run rfl (isO_ob c)) (fn_run (two_run (fldN_pts 0 c rfl) rfl) rfl (same_pts c)))
  exact congrArg ansOf e

theorem lc_rel {vs : List Nat} {t : Tg} {te : Mo D} {ε : List Ent} : ∀ (ps : List (D × D)) (acc : List D), acc.length + ps.length ≤ 1000000 → (∀ q ∈ ps, ∃ ds ε1, t.parts q.1 = some ds ∧ te (setL ε t.is ds) = some (.ok q.2 ε1) ∧ wipeE ε1 vs = ε) → lcGo vs t (pur true) te (ps.map Prod.fst) acc ε = some (.ok (acc ++ ps.map Prod.snd) ε)
  | [], acc, _, _ => by simp [lcGo, pur]
  | q :: r, acc, hl, h => by
    rw [List.length_cons] at hl
    obtain ⟨ds, ε1, h1, h2, h3⟩ := h q (List.mem_cons_self ..)
    have ih := lc_rel (vs := vs) (t := t) (te := te) (ε := ε) r (acc ++ [q.2]) (by rw [List.length_append, List.length_singleton]; omega) fun e he => h e (List.mem_cons_of_mem _ he)
    rw [List.append_assoc, List.singleton_append] at ih
    have o := lc_one (vs := vs) (t := t) (r := r.map Prod.fst) (acc := acc) h1 h2 (by omega)
    rw [h3] at o
    exact o.trans ih
theorem mlc_rel {vs : List Nat} {fi : Mo (List D)} {t : Tg} {te : Mo D} {ε ε' ε1 ε2 : List Ent} (ps : List (D × D)) (hf : fi ε = some (.ok (ps.map Prod.fst) ε')) (hl : ps.length ≤ 1000000) (hw : wipeE ε' vs = ε1) (h : ∀ q ∈ ps, ∃ ds ε3, t.parts q.1 = some ds ∧ te (setL ε1 t.is ds) = some (.ok q.2 ε3) ∧ wipeE ε3 vs = ε1) (hb : backE ε' ε1 vs = ε2) : mLc vs fi t (pur true) te ε = some (.ok (ps.map Prod.snd) ε2) := by
  have e := lc_rel (vs := vs) (t := t) (te := te) (ε := ε1) ps [] (by simpa using hl) h
  rw [List.nil_append] at e
  unfold mLc bnd
  rw [hf]
  dsimp only
  rw [hw, e]
  dsimp only
  rw [hb]
theorem all3 {α : Type} {a b c : α} {Q : α → Prop} (h1 : Q a) (h2 : Q b) (h3 : Q c) : ∀ q ∈ [a, b, c], Q q := fun q hq => by
  simp at hq
  rcases hq with rfl | rfl | rfl
  · exact h1
  · exact h2
  · exact h3
/-! the law's pixels -/
theorem itemN_run {i : Nat} {g : Mo D} {ε ε1 : List Ent} {p0 ps : List D} {j : Int} {d : D} (h0 : (ε[i]?).bind Ent.get = some p0) (hg : g ε = some (.ok (.int j) ε1)) (h1 : (ε1[i]?).bind Ent.get = some ps) (h : atI ps j = some d) : mItemN i g ε = some (.ok d ε1) := by
  unfold mItemN
  rw [h0]
  dsimp only [bnd]
  rw [hg]
  dsimp only
  rw [h1]
  dsimp only
  rw [h]

/-! points in general -/
def pairsP (ps : List Pt) : List (Pt × Pt) := ps.zip ps.tail
def lenB (n : Nat) : Bool := decide (2 ≤ n) && decide (n ≤ 16)
def areB (ps : List Pt) : Bool := lenB ps.length && !((ps.head?.getD (0, 0)).1 != 0 || (ps.getLast?.getD (0, 0)).1 != 255) && !((pairsP ps).any fun q => decide (q.2.1 ≤ q.1.1)) && ps.all fun q => decide (0 ≤ q.2 ∧ q.2 ≤ 255)
theorem bools_map {α : Type} (h : α → Bool) : ∀ l : List α, boolsOf (l.map fun a => D.bl (h a)) = some (l.map h)
  | [] => rfl
  | a :: r => by simp [boolsOf, bools_map h r]
theorem any_map {α : Type} (h : α → Bool) (l : List α) : gAny (.lst (l.map fun a => D.bl (h a))) = some (.bl (l.any h)) := by
  simp only [gAny, bools_map, Option.map_some, List.any_map]
  rfl
theorem all_map {α : Type} (h : α → Bool) (l : List α) : gAll (.lst (l.map fun a => D.bl (h a))) = some (.bl (l.all h)) := by
  simp only [gAll, bools_map, Option.map_some, List.all_map]
  rfl
abbrev af (T : D) : List Ent := [.dat T, .un, .un, .un, .un, .un]
theorem a_len {T : D} {n : Nat} (h : mLenN 0 (af T) = some (.ok (.int (n : Int)) (af T))) : (mChain gLe gLe (pur (.int 2)) (mLenN 0) (pur (.int 16))) (af T) = some (.ok (.bl (lenB n)) (af T)) := by
  unfold lenB
  by_cases h2 : 2 ≤ n
  · by_cases h16 : n ≤ 16
    · rw [chain_run rfl h (le_t (by omega)) rfl (le_t (by omega))]; simp [h2, h16]
    · rw [chain_run rfl h (le_t (by omega)) rfl (le_f (by omega))]; simp [h16]
  · rw [chain_no rfl h (le_f (by omega))]; simp [h2]
theorem a_len_pts (ps : List Pt) : mLenN 0 (af (ptsD ps)) = some (.ok (.int (ps.length : Int)) (af (ptsD ps))) := by
  have := lenN_seq (T := ptsD ps) (ds := ps.map ptD) rfl 0 (ε := af (ptsD ps)) rfl
  rw [List.length_map] at this
  exact this
theorem a_two {ps : List Pt} (hl : ps.length ≤ 1000) : bd_are_points_2 (af (ptsD ps)) = some (.ok (ps.map fun _ => D.bl false) (af (ptsD ps))) := by
  unfold bd_are_points_2
  have h1 : (bnd (mVar 0) fun d => lft (tupOf d)) (af (ptsD ps)) = some (.ok ((ps.map fun p => (ptD p, D.bl false)).map Prod.fst) (af (ptsD ps))) := by
    rw [List.map_map]; rfl
  have := mlc_rel (vs := [1]) (t := gdName 1) (te := bd_are_points_1) (ε1 := af (ptsD ps)) (ε2 := af (ptsD ps)) (ps.map fun p => (ptD p, D.bl false)) h1 (by simp; omega) rfl (fun q hq => by
    obtain ⟨p, _, rfl⟩ := List.mem_map.mp hq
    exact ⟨[ptD p], [.dat (ptsD ps), .dat (ptD p), .un, .un, .un, .un], rfl, rfl, rfl⟩) rfl
  rw [this, List.map_map]; rfl
theorem a_zip (p : Pt) (r : List Pt) : zipD [ptsD (p :: r), .tup (r.map ptD)] = some ((pairsP (p :: r)).map fun q => D.tup [ptD q.1, ptD q.2]) := by
  simp only [zipD, ptsD, pairsP, List.tail_cons]
  congr 1
  rw [List.zip_map, List.map_map]
  rfl
theorem a_asc {p : Pt} {r : List Pt} (hl : r.length < 1000) : bd_are_points_4 (af (ptsD (p :: r))) = some (.ok ((pairsP (p :: r)).map fun q => D.bl (decide (q.2.1 ≤ q.1.1))) (af (ptsD (p :: r)))) := by
  unfold bd_are_points_4
  have pl : (pairsP (p :: r)).length ≤ 1000000 := by
    unfold pairsP; rw [List.length_zip]; simp; omega
  have h1 : (bnd (mCons (mVar 0) (mCons (mSl gSlT (mVar 0) (bnd (pur (.int 1)) fun d => lft ((asI d).map some)) (pur none)) (pur []))) fun ds => lft (zipD ds)) (af (ptsD (p :: r))) = some (.ok (((pairsP (p :: r)).map fun q => (D.tup [ptD q.1, ptD q.2], D.bl (decide (q.2.1 ≤ q.1.1)))).map Prod.fst) (af (ptsD (p :: r)))) := by
    rw [List.map_map]
    refine it_run (g := zipD) (two_run rfl (ε2 := af (ptsD (p :: r))) (e := .tup (r.map ptD)) ?_) (a_zip p r)
    have s := sl_tail (ptD p) (r.map ptD)
    simp [mSl, mVar, bnd, pur, lft, asI, ptsD, s]
  have := mlc_rel (vs := [2, 3]) (t := gdTup [2, 3]) (te := bd_are_points_3) (ε1 := af (ptsD (p :: r))) (ε2 := af (ptsD (p :: r))) ((pairsP (p :: r)).map fun q => (D.tup [ptD q.1, ptD q.2], D.bl (decide (q.2.1 ≤ q.1.1)))) h1 (by rw [List.length_map]; exact pl) rfl (fun q hq => by
    obtain ⟨⟨a, b⟩, _, rfl⟩ := List.mem_map.mp hq
    refine ⟨[ptD a, ptD b], [.dat (ptsD (p :: r)), .un, .dat (ptD a), .dat (ptD b), .un, .un], rfl, ?_, rfl⟩
    have ga : gIx (ptD a) (.int 0) = some (.int a.1) := rfl
    have gb : gIx (ptD b) (.int 0) = some (.int b.1) := rfl
    exact op_run (op_run rfl rfl gb) (op_run rfl rfl ga) rfl) rfl
  rw [this, List.map_map]; rfl
theorem a_all {ps : List Pt} (hl : ps.length ≤ 1000) : bd_are_points_6 (af (ptsD ps)) = some (.ok (ps.map fun q => D.bl (decide (0 ≤ q.2 ∧ q.2 ≤ 255))) (af (ptsD ps))) := by
  unfold bd_are_points_6
  have h1 : (bnd (mVar 0) fun d => lft (tupOf d)) (af (ptsD ps)) = some (.ok ((ps.map fun p => (ptD p, D.bl (decide (0 ≤ p.2 ∧ p.2 ≤ 255)))).map Prod.fst) (af (ptsD ps))) := by
    rw [List.map_map]; rfl
  have := mlc_rel (vs := [4, 5]) (t := gdTup [4, 5]) (te := bd_are_points_5) (ε1 := af (ptsD ps)) (ε2 := af (ptsD ps)) (ps.map fun p => (ptD p, D.bl (decide (0 ≤ p.2 ∧ p.2 ≤ 255)))) h1 (by simp; omega) rfl (fun q hq => by
    obtain ⟨p, _, rfl⟩ := List.mem_map.mp hq
    refine ⟨[.int p.1, .int p.2], [.dat (ptsD ps), .un, .un, .un, .dat (.int p.1), .dat (.int p.2)], rfl, ?_, rfl⟩
    show mChain gLe gLe (pur (.int 0)) (mVar 5) (pur (.int 255)) [.dat (ptsD ps), .un, .un, .un, .dat (.int p.1), .dat (.int p.2)] = _
    by_cases h0 : 0 ≤ p.2
    · by_cases h5 : p.2 ≤ 255
      · rw [chain_run rfl rfl (le_t h0) rfl (le_t h5)]; simp [h0, h5]
      · rw [chain_run rfl rfl (le_t h0) rfl (le_f h5)]; simp [h5]
    · rw [chain_no rfl rfl (le_f h0)]; simp [h0]) rfl
  rw [this, List.map_map]; rfl
theorem ne_b {i j : Int} : gNeS (.int i) (.int j) = some (.bl (i != j)) := by
  by_cases h : i = j <;> simp [gNeS, h]
theorem or_tt {f g : Mo Bool} {ε ε1 : List Ent} (h : f ε = some (.ok true ε1)) : mOr f g ε = some (.ok true ε1) := by
  unfold mOr bnd; rw [h]; rfl
theorem or_b {f g : Mo Bool} {ε : List Ent} {a b : Bool} (h : f ε = some (.ok a ε)) (h2 : g ε = some (.ok b ε)) : mOr f g ε = some (.ok (a || b) ε) := by
  cases a
  · exact or_ff h h2
  · exact or_tt h
theorem last_get (p : Pt) (r : List Pt) : (p :: r).getLast?.getD (0, 0) = lastP p r := by
  induction r generalizing p with
  | nil => rfl
  | cons q r ih => rw [List.getLast?_cons_cons]; exact ih q
theorem r_are_gen {ps : List Pt} (hl : ps.length ≤ 999) : m_are_points [ptsD ps] = some (.ret (.bl (areB ps))) := by
  have L := a_len (a_len_pts ps)
  have e : g_are_points (af (ptsD ps)) = some (.rt (.bl (areB ps)) (af (ptsD ps))) := by
    unfold g_are_points
    by_cases h0 : lenB ps.length = true
    · rw [h0] at L
      refine (seq_nx (if_not L)).trans ?_
      match ps, hl, h0 with
      | [], _, h0 => exact absurd h0 (by decide)
      | p :: r, hl, h0 =>
        rw [List.length_cons] at hl
        have c2 := a_two (ps := p :: r) (by rw [List.length_cons]; omega)
        have c4 := a_asc (p := p) (r := r) (by omega)
        have c6 := a_all (ps := p :: r) (by rw [List.length_cons]; omega)
        have any2 : gAny (.lst ((p :: r).map fun _ => D.bl false)) = some (.bl false) := by
          rw [any_map (fun _ => false)]; simp
        refine (seq_nx (ifS_no (mB_run (call_run (one_run (fz_run c2)) any2)))).trans ?_
        have g0 : gIx (ptsD (p :: r)) (.int 0) = some (ptD p) := ix_seq2 (T := ptsD (p :: r)) (ds := (p :: r).map ptD) (i := 0) rfl (by simp)
        have gl := at_last p r
        have px : gIx (ptD p) (.int 0) = some (.int p.1) := rfl
        have lx : gIx (ptD (lastP p r)) (.int 0) = some (.int (lastP p r).1) := rfl
        have o := or_b (mB_run (op_run (op_run (op_run (ε := af (ptsD (p :: r))) (f1 := mVar 0) (f2 := pur (.int 0)) rfl rfl g0) (f2 := pur (.int 0)) rfl px) (f2 := pur (.int 0)) rfl ne_b)) (mB_run (op_run (op_run (op_run (ε := af (ptsD (p :: r))) (f1 := mVar 0) rfl (un_run (g := gNeg) (f := pur (.int 1)) (c := .int (-1)) rfl rfl) gl) (f2 := pur (.int 0)) rfl lx) (f2 := pur (.int 255)) rfl ne_b))
        have ar : areB (p :: r) = (true && !(p.1 != 0 || (lastP p r).1 != 255) && !((pairsP (p :: r)).any fun q => decide (q.2.1 ≤ q.1.1)) && (p :: r).all fun q => decide (0 ≤ q.2 ∧ q.2 ≤ 255)) := by
          unfold areB
          rw [h0, last_get]; rfl
        rw [ar]
        by_cases h1 : (p.1 != 0 || (lastP p r).1 != 255) = true
        · rw [h1] at o ⊢
          exact seq_rt ((ifS_yes o).trans (ret_run rfl))
        · rw [Bool.not_eq_true] at h1
          rw [h1] at o ⊢
          refine (seq_nx (ifS_no o)).trans ?_
          have an := any_map (fun q : Pt × Pt => decide (q.2.1 ≤ q.1.1)) (pairsP (p :: r))
          by_cases h2 : ((pairsP (p :: r)).any fun q => decide (q.2.1 ≤ q.1.1)) = true
          · rw [h2] at an ⊢
            exact seq_rt ((ifS_yes (mB_run (call_run (one_run (fz_run c4)) an))).trans (ret_run rfl))
          · rw [Bool.not_eq_true] at h2
            rw [h2] at an ⊢
            refine (seq_nx (ifS_no (mB_run (call_run (one_run (fz_run c4)) an)))).trans ?_
            exact ret_run (call_run (one_run (fz_run c6)) (all_map _ _))
    · rw [Bool.not_eq_true] at h0
      rw [h0] at L
      have ar : areB ps = false := by unfold areB; rw [h0]; rfl
      rw [ar]
      exact seq_rt ((ifS_yes (not_run (mB_run L))).trans (ret_run rfl))
  exact congrArg ansOf e
/-! what is refused -/
def bv (x : String) : Xn := ⟨"BadValue", [("field", .str x)]⟩
theorem makeX_run {c : Str} {n : Nat} {m : OB → List D → Option (Ans × OB)} {f : Mo (List D)} {ε ε1 : List Ent} {ds : List D} {b : OB} {x : Xn} (h : f ε = some (.ok ds ε1)) (hl : ds.length + 1 = n) (hm : m (.ins c []) ds = some (.exc x, b)) : mMake c n m f ε = some (.ex x ε1) := by
  unfold mMake bnd; rw [h]; dsimp only; rw [if_pos hl, hm]
theorem r_initX {d : D} (h : m_are_points [d] = some (.ret (.bl false))) : m_Curve_init (.ins "Curve" []) [d] = some (.exc (bv "points"), .ins "Curve" []) := by
  have e : g_Curve_init [.ib (.ins "Curve" []), .dat d] = some (.ex (bv "points") [.ib (.ins "Curve" []), .dat d]) := by
    have i : mIfS (mNot (mB (mFn 1 m_are_points (mCons (mVar 1) (pur []))))) (mRaise1 "BadValue" "field" (mCons (pur (.str (Str.ofString "points"))) (pur []))) mNil [.ib (.ins "Curve" []), .dat d] = some (.ex (bv "points") [.ib (.ins "Curve" []), .dat d]) :=
      (ifS_yes (not_run (mB_run (fn_run (one_run rfl) rfl h)))).trans rfl
    unfold g_Curve_init mSeq
    rw [i]
  exact congrArg outB e

/-! levels and thresholds -/
theorem lt_b {i j : Int} : gLt (.int i) (.int j) = some (.bl (decide (i < j))) := by
  simp [gLt, gI]
theorem le_b {i j : Int} : gLe (.int i) (.int j) = some (.bl (decide (i ≤ j))) := by
  simp [gLe, gI]
theorem gt_b {i j : Int} : gGt (.int i) (.int j) = some (.bl (decide (i > j))) := by
  simp [gGt, gI]
theorem chain_b {f : Mo D} {ε : List Ent} {i : Int} {lo hi : Int} (h : f ε = some (.ok (.int i) ε)) : mChain gLe gLe (pur (.int lo)) f (pur (.int hi)) ε = some (.ok (.bl (decide (lo ≤ i) && decide (i ≤ hi))) ε) := by
  by_cases h1 : lo ≤ i
  · rw [chain_run rfl h (le_t h1) rfl le_b]; simp [h1]
  · rw [chain_no rfl h (le_f h1)]; simp [h1]
theorem chain3_b {f g : Mo D} {ε : List Ent} {b w : Int} (h0 : f ε = some (.ok (.int b) ε)) (h1 : g ε = some (.ok (.int w) ε)) : mChain3 gLt gLt gLt (pur (.int 0)) f g (pur (.int 255)) ε = some (.ok (.bl (decide (0 < b) && (decide (b < w) && decide (w < 255)))) ε) := by
  by_cases a : 0 < b
  · by_cases c : b < w
    · simp [mChain3, bnd, mB, lft, pur, h0, h1, lt_b, asB, a, c]
    · simp [mChain3, bnd, mB, lft, pur, h0, h1, lt_b, asB, a, c]
  · simp [mChain3, bnd, mB, lft, pur, h0, lt_b, asB, a]
def levB (b w lo hi : Int) : Bool := (decide (0 < b) && (decide (b < w) && decide (w < 255))) && (decide (0 ≤ lo) && decide (lo ≤ 255)) && (decide (0 ≤ hi) && decide (hi ≤ 255))
theorem lev_test (b w lo hi : Int) : (mOr (mNot (mB (mChain3 gLt gLt gLt (pur (.int 0)) (mVar 0) (mVar 1) (pur (.int 255))))) (mOr (mNot (mB (mChain gLe gLe (pur (.int 0)) (mVar 2) (pur (.int 255))))) (mNot (mB (mChain gLe gLe (pur (.int 0)) (mVar 3) (pur (.int 255))))))) [.dat (.int b), .dat (.int w), .dat (.int lo), .dat (.int hi)] = some (.ok (!levB b w lo hi) [.dat (.int b), .dat (.int w), .dat (.int lo), .dat (.int hi)]) := by
  have e := or_b (not_run (mB_run (chain3_b (ε := [.dat (.int b), .dat (.int w), .dat (.int lo), .dat (.int hi)]) (f := mVar 0) (g := mVar 1) rfl rfl))) (or_b (not_run (mB_run (chain_b (lo := 0) (hi := 255) (ε := [.dat (.int b), .dat (.int w), .dat (.int lo), .dat (.int hi)]) (f := mVar 2) rfl))) (not_run (mB_run (chain_b (lo := 0) (hi := 255) (ε := [.dat (.int b), .dat (.int w), .dat (.int lo), .dat (.int hi)]) (f := mVar 3) rfl))))
  rw [e]
  unfold levB
  simp only [Bool.not_and, Bool.or_assoc]
theorem good_lev {b w lo hi : Int} (h : levB b w lo hi = true) : Good12 (0, lo) [(b, lo), (w, hi), (255, hi)] := by
  simp [levB] at h
  refine ⟨?_, ?_, rfl, rfl, by simp, by simp⟩
  · simp [Chain]; omega
  · simp [Ys]; omega
def cLev (b w lo hi : Int) (h : levB b w lo hi = true) : Cur := ⟨(0, lo), [(b, lo), (w, hi), (255, hi)], good_lev h⟩
theorem r_levels {b w lo hi : Int} (h : levB b w lo hi = true) : m_Curve_levels [.int b, .int w, .int lo, .int hi] = some (.ret (cLev b w lo hi h).ob) := by
  have t := lev_test b w lo hi
  rw [h] at t
  have e : g_Curve_levels [.dat (.int b), .dat (.int w), .dat (.int lo), .dat (.int hi)] = some (.rt (cLev b w lo hi h).ob [.dat (.int b), .dat (.int w), .dat (.int lo), .dat (.int hi)]) := by
    unfold g_Curve_levels
    refine (seq_nx (ifS_no t)).trans ?_
    exact ret_run (make_crv (good_lev h) rfl)
  exact congrArg ansOf e
theorem seq_ex {m m2 : MoS} {x : Xn} {ε ε' : List Ent} (h : m ε = some (.ex x ε')) : mSeq m m2 ε = some (.ex x ε') := by unfold mSeq; rw [h]
theorem r_levelsX {b w lo hi : Int} (h : levB b w lo hi = false) : m_Curve_levels [.int b, .int w, .int lo, .int hi] = some (.exc (bv "levels")) := by
  have t := lev_test b w lo hi
  rw [h] at t
  have e : g_Curve_levels [.dat (.int b), .dat (.int w), .dat (.int lo), .dat (.int hi)] = some (.ex (bv "levels") [.dat (.int b), .dat (.int w), .dat (.int lo), .dat (.int hi)]) := by
    unfold g_Curve_levels
    exact seq_ex ((ifS_yes t).trans rfl)
  exact congrArg ansOf e
def thrR (n : Int) : List Pt := (if 1 < n then [(n - 1, 0)] else []) ++ [(n, 255)] ++ (if n < 255 then [(255, 255)] else [])
theorem good_thr {n : Int} (h1 : 1 ≤ n) (h2 : n ≤ 255) : Good12 (0, 0) (thrR n) := by
  unfold thrR
  by_cases a : 1 < n
  · by_cases b : n < 255
    · rw [if_pos a, if_pos b]
      refine ⟨?_, ?_, rfl, rfl, by simp, by simp⟩
      · simp [Chain]; omega
      · simp [Ys]
    · rw [if_pos a, if_neg b]
      have : n = 255 := by omega
      subst this
      refine ⟨?_, ?_, rfl, rfl, by simp, by simp⟩
      · simp [Chain]
      · simp [Ys]
  · have : n = 1 := by omega
    subst this
    rw [if_neg a, if_pos (by decide)]
    refine ⟨?_, ?_, rfl, rfl, by simp, by simp⟩
    · simp [Chain]
    · simp [Ys]
def cThr (n : Int) (h1 : 1 ≤ n) (h2 : n ≤ 255) : Cur := ⟨(0, 0), thrR n, good_thr h1 h2⟩
theorem thr_test (n : Int) (e1 : Ent) : mNot (mB (mChain gLe gLe (pur (.int 1)) (mVar 0) (pur (.int 255)))) [.dat (.int n), e1] = some (.ok (!(decide (1 ≤ n) && decide (n ≤ 255))) [.dat (.int n), e1]) := not_run (mB_run (chain_b rfl))
theorem r_threshold {n : Int} (h1 : 1 ≤ n) (h2 : n ≤ 255) : m_Curve_threshold [.int n] = some (.ret (cThr n h1 h2).ob) := by
  have t := thr_test n .un
  rw [show (!(decide (1 ≤ n) && decide (n ≤ 255))) = false by simp [h1, h2]] at t
  have fin : ∀ {X : List D}, X = (cThr n h1 h2).ps.map ptD → (mRet (mMake "Curve" 2 m_Curve_init (mCons (mCall (gOne gTuple) (mCons (mVar 1) (pur []))) (pur [])))) [.dat (.int n), .own X] = some (.rt (cThr n h1 h2).ob [.dat (.int n), .dat (.lst X)]) := fun {X} e => by
    subst e
    exact ret_run (make_crv (cThr n h1 h2).G (call_run (one_run rfl) rfl))
  have a1 : mSetO 1 (mLstO (mCons (mTup (mCons (mOp DL.gSub (mVar 0) (pur (.int 1))) (mCons (pur (.int 0)) (pur [])))) (mCons (mTup (mCons (mVar 0) (mCons (pur (.int 255)) (pur [])))) (pur [])))) [.dat (.int n), .un] = some (.nx [.dat (.int n), .own [ptD (n - 1, 0), ptD (n, 255)]]) := rfl
  have go : ∃ ε, g_Curve_threshold [.dat (.int n), .un] = some (.rt (cThr n h1 h2).ob ε) := by
    unfold g_Curve_threshold
    by_cases a : 1 < n
    · have i1 : mIfS (mB (mOp gGt (mVar 0) (pur (.int 1)))) (mIns 1 (mCons (pur (.int 0)) (mCons (mTup (mCons (pur (.int 0)) (mCons (pur (.int 0)) (pur [])))) (pur [])))) mNil [.dat (.int n), .own [ptD (n - 1, 0), ptD (n, 255)]] = some (.nx [.dat (.int n), .own [ptD (0, 0), ptD (n - 1, 0), ptD (n, 255)]]) :=
        (ifS_yes (mB_run (op_run rfl rfl (by rw [gt_b]; simp [a])))).trans rfl
      by_cases b : n < 255
      · have i2 : mIfS (mB (mOp gLt (mVar 0) (pur (.int 255)))) (mApp 1 (mTup (mCons (pur (.int 255)) (mCons (pur (.int 255)) (pur []))))) mNil [.dat (.int n), .own [ptD (0, 0), ptD (n - 1, 0), ptD (n, 255)]] = some (.nx [.dat (.int n), .own [ptD (0, 0), ptD (n - 1, 0), ptD (n, 255), ptD (255, 255)]]) :=
          (ifS_yes (mB_run (op_run rfl rfl (by rw [lt_b]; simp [b])))).trans rfl
        exact ⟨_, (seq_nx (ifS_no t)).trans ((seq_nx a1).trans ((seq_nx i1).trans ((seq_nx i2).trans (fin (by simp [Cur.ps, cThr, thrR, a, b])))))⟩
      · have i2 : mIfS (mB (mOp gLt (mVar 0) (pur (.int 255)))) (mApp 1 (mTup (mCons (pur (.int 255)) (mCons (pur (.int 255)) (pur []))))) mNil [.dat (.int n), .own [ptD (0, 0), ptD (n - 1, 0), ptD (n, 255)]] = some (.nx [.dat (.int n), .own [ptD (0, 0), ptD (n - 1, 0), ptD (n, 255)]]) :=
          ifS_no (mB_run (op_run rfl rfl (by rw [lt_b]; simp [b])))
        exact ⟨_, (seq_nx (ifS_no t)).trans ((seq_nx a1).trans ((seq_nx i1).trans ((seq_nx i2).trans (fin (by simp [Cur.ps, cThr, thrR, a, b])))))⟩
    · have i1 : mIfS (mB (mOp gGt (mVar 0) (pur (.int 1)))) (mIns 1 (mCons (pur (.int 0)) (mCons (mTup (mCons (pur (.int 0)) (mCons (pur (.int 0)) (pur [])))) (pur [])))) mNil [.dat (.int n), .own [ptD (n - 1, 0), ptD (n, 255)]] = some (.nx [.dat (.int n), .own [ptD (n - 1, 0), ptD (n, 255)]]) :=
        ifS_no (mB_run (op_run rfl rfl (by rw [gt_b]; simp [a])))
      have b : n < 255 := by omega
      have i2 : mIfS (mB (mOp gLt (mVar 0) (pur (.int 255)))) (mApp 1 (mTup (mCons (pur (.int 255)) (mCons (pur (.int 255)) (pur []))))) mNil [.dat (.int n), .own [ptD (n - 1, 0), ptD (n, 255)]] = some (.nx [.dat (.int n), .own [ptD (n - 1, 0), ptD (n, 255), ptD (255, 255)]]) :=
        (ifS_yes (mB_run (op_run rfl rfl (by rw [lt_b]; simp [b])))).trans rfl
      refine ⟨_, (seq_nx (ifS_no t)).trans ((seq_nx a1).trans ((seq_nx i1).trans ((seq_nx i2).trans (fin ?_))))⟩
      have : n = 1 := by omega
      subst this
      rfl
  obtain ⟨ε, e⟩ := go
  exact congrArg ansOf e
theorem r_thresholdX {n : Int} (h : (decide (1 ≤ n) && decide (n ≤ 255)) = false) : m_Curve_threshold [.int n] = some (.exc (bv "threshold")) := by
  have t := thr_test n .un
  rw [h] at t
  have e : g_Curve_threshold [.dat (.int n), .un] = some (.ex (bv "threshold") [.dat (.int n), .un]) := by
    unfold g_Curve_threshold
    exact seq_ex ((ifS_yes t).trans rfl)
  exact congrArg ansOf e
/-! what is raised -/
theorem r_ref {w : Str} {row : D} {x : Xn} {r : D} {ε2 : List Ent} (h : g_law_refused [.dat (.str w), .dat row, .un, .un, .un] = some (.rt r ε2)) : m_law_refused [.str w, row] = some (.ret r) := congrArg ansOf h

/-! what is raised, told -/
theorem str_t (a : Str) : gEqS (.str a) (.str a) = some (.bl true) := by simp [gEqS]
theorem str_f {a b : Str} (h : a ≠ b) : gEqS (.str a) (.str b) = some (.bl false) := by simp [gEqS, h]
def refD (w : String) : D := .tup [.str w, .bl true, .bl false]
abbrev rf5 (w : Str) (row : D) (e2 e3 e4 : Ent) : List Ent := [.dat (.str w), .dat row, e2, e3, e4]
def letD : D := .tup [.str "let", .bl false, .bl false]
theorem drop_ex {f : Mo D} {ε ε1 : List Ent} {x : Xn} (h : f ε = some (.ex x ε1)) : mDrop f ε = some (.ex x ε1) := by
  unfold mDrop mThen; rw [h]
theorem ref_go {w : Str} {row : D} {v : String} (h : (mSeq (mIfS (mB (mOp gEqS (mVar 0) (pur (.str (Str.ofString "points"))))) (mDrop (mMake "Curve" 2 m_Curve_init (mCons (mVar 1) (pur [])))) mNil)
  (mSeq (mIfS (mB (mOp gEqS (mVar 0) (pur (.str (Str.ofString "levels"))))) (mDrop (mFn 4 m_Curve_levels (mCons (mOp gIx (mVar 1) (pur (.int 0))) (mCons (mOp gIx (mVar 1) (pur (.int 1))) (mCons (mOp gIx (mVar 1) (pur (.int 2))) (mCons (mOp gIx (mVar 1) (pur (.int 3))) (pur []))))))) mNil)
  (mIfS (mB (mOp gEqS (mVar 0) (pur (.str (Str.ofString "threshold"))))) (mDrop (mFn 1 m_Curve_threshold (mCons (mVar 1) (pur [])))) mNil))) (rf5 w row (.dat letD) .un .un) = some (.ex (bv v) (rf5 w row (.dat letD) .un .un))) : m_law_refused [.str w, row] = some (.ret (refD v)) := by
  have e : g_law_refused (rf5 w row .un .un .un) = some (.rt (refD v) (rf5 w row (.dat (refD v)) .un (.dat (.bl false)))) := by
    unfold g_law_refused
    refine (seq_nx (ε' := rf5 w row (.dat letD) .un .un) rfl).trans ?_
    refine (seq_nx (ε' := rf5 w row (.dat (refD v)) .un (.dat (.bl false))) ?_).trans (ret_run rfl)
    unfold mTry
    rw [h]
    rfl
  exact congrArg ansOf e
theorem r_refP {row : D} (h : m_are_points [row] = some (.ret (.bl false))) : m_law_refused [.str "points", row] = some (.ret (refD "points")) :=
  ref_go (seq_ex ((ifS_yes (mB_run (op_run rfl rfl (str_t _)))).trans (drop_ex (makeX_run (one_run rfl) rfl (r_initX h)))))
theorem fnX_run {n : Nat} {m : List D → Option Ans} {fs : Mo (List D)} {ε ε1 : List Ent} {x : Xn} {ds : List D} (h : fs ε = some (.ok ds ε1)) (hl : ds.length = n) (hm : m ds = some (.exc x)) : mFn n m fs ε = some (.ex x ε1) := by
  unfold mFn bnd; rw [h]; dsimp only; rw [if_pos hl]; simp [ansM, hm]
theorem r_refL {b w lo hi : Int} (h : levB b w lo hi = false) : m_law_refused [.str "levels", .tup [.int b, .int w, .int lo, .int hi]] = some (.ret (refD "levels")) :=
  ref_go ((seq_nx (ifS_no (mB_run (op_run rfl rfl (str_f (by decide)))))).trans (seq_ex ((ifS_yes (mB_run (op_run rfl rfl (str_t _)))).trans (drop_ex (fnX_run (cons_run (op_run rfl rfl rfl) (cons_run (op_run rfl rfl rfl) (cons_run (op_run rfl rfl rfl) (one_run (op_run rfl rfl rfl))))) rfl (r_levelsX h))))))
theorem r_refT {n : Int} (h : (decide (1 ≤ n) && decide (n ≤ 255)) = false) : m_law_refused [.str "threshold", .int n] = some (.ret (refD "threshold")) :=
  ref_go ((seq_nx (ifS_no (mB_run (op_run rfl rfl (str_f (by decide)))))).trans ((seq_nx (ifS_no (mB_run (op_run rfl rfl (str_f (by decide)))))).trans ((ifS_yes (mB_run (op_run rfl rfl (str_t _)))).trans (drop_ex (fnX_run (one_run rfl) rfl (r_thresholdX h))))))
theorem ne_ref (w : String) (hs : PyData.strOk (Str.ofString w) = true) : gNe (refD w) (.tup [.str (Str.ofString w), .bl true, .bl false]) = some (.bl false) := by
  simp [refD, gNe, toPy, toPyL, SeqAt.shaped, PyData.eqv, PyData.canLay0, PyData.canLayAll0, PyData.depth, PyData.depthAll, PyData.eqvAll, hs]
/-! the law's lines -/
theorem cv_seg {v : Int} : ∀ (pre : List Pt) {p q : Pt} {r : List Pt} {p0 : Pt} {r0 : List Pt}, Chain p0 r0 → p0 :: r0 = pre ++ p :: q :: r → p.1 ≤ v → v ≤ q.1 → cv p0 r0 v = seg p q v
  | [], p, q, r, p0, r0, h, e, h1, h2 => by
    obtain ⟨rfl, rfl⟩ : p0 = p ∧ r0 = q :: r := by simpa using e
    simp [cv, h2]
  | [a], p, q, r, p0, r0, h, e, h1, h2 => by
    obtain ⟨rfl, rfl⟩ : p0 = a ∧ r0 = p :: q :: r := by simpa using e
    have c1 := h.1
    have c2 := h.2.1
    show (if v ≤ p.1 then seg p0 p v else if v ≤ q.1 then seg p q v else cv q r v) = _
    rw [if_pos h2]
    by_cases hv : v ≤ p.1
    · have : v = p.1 := by omega
      subst this
      rw [if_pos hv, seg_hi p0 p c1, seg_lo p q c2]
    · rw [if_neg hv]
  | a :: b :: pre, p, q, r, p0, r0, h, e, h1, h2 => by
    obtain ⟨rfl, rfl⟩ : p0 = a ∧ r0 = b :: (pre ++ p :: q :: r) := by simpa using e
    have hb : b.1 < p.1 := (xs_in h.2 p (by simp)).1
    have := cv_seg (b :: pre) (p0 := b) (r0 := pre ++ p :: q :: r) h.2 rfl h1 h2
    rw [← this]
    have hv : ¬ v ≤ b.1 := by omega
    show (if v ≤ b.1 then seg p0 b v else cv b (pre ++ p :: q :: r) v) = _
    rw [if_neg hv]

abbrev lf (c : Cur) (e2 e3 e4 e5 e6 e7 e8 e9 : Ent) : List Ent := [.dat c.ob, .dat c.pts, e2, e3, e4, e5, e6, e7, e8, e9]
theorem l_val {c : Cur} {k : Int} {p q : Pt} {v : Int} (h : p.1 < q.1) (h0 : 0 ≤ p.1) (h1 : q.1 ≤ 255) (y1 : 0 ≤ p.2 ∧ p.2 ≤ 255) (y2 : 0 ≤ q.2 ∧ q.2 ≤ 255) (v0 : p.1 ≤ v) (v1 : v ≤ q.1) (hc : c.at v = seg p q v) {e8 e9 : Ent} :
    ∃ f8 f9, bd_law_line_1 (lf c (.dat (.int k)) (.dat (.int p.1)) (.dat (.int p.2)) (.dat (.int (q.1 - p.1))) (.dat (.int (q.2 - p.2))) (.dat (.int v)) e8 e9) = some (.nx (lf c (.dat (.int k)) (.dat (.int p.1)) (.dat (.int p.2)) (.dat (.int (q.1 - p.1))) (.dat (.int (q.2 - p.2))) (.dat (.int v)) f8 f9)) := by
  have m1 := gmul_s (x := 2) (y := q.2 - p.2) (by omega) (by omega) (by omega) (by omega)
  have m2 := gmul_s (x := 2 * (q.2 - p.2)) (y := v - p.1) (by omega) (by omega) (by omega) (by omega)
  have m3 := gmul_s (x := 2) (y := q.1 - p.1) (by omega) (by omega) (by omega) (by omega)
  have cc := c.in (v := v) (by omega)
  have m4 := gmul_s (x := 2 * (q.1 - p.1)) (y := c.at v - p.2) (by omega) (by omega) (by omega) (by omega)
  have m5 := gmul_s (x := 2 * (q.1 - p.1)) (y := c.at v - p.2 + 1) (by omega) (by omega) (by omega) (by omega)
  have hw : 0 < 2 * (q.1 - p.1) := by omega
  have en : c.at v - p.2 = (2 * (q.2 - p.2) * (v - p.1) + (q.1 - p.1)) / (2 * (q.1 - p.1)) := by rw [hc]; unfold seg; omega
  have n1 : ¬ 2 * (q.2 - p.2) * (v - p.1) + (q.1 - p.1) < 2 * (q.1 - p.1) * (c.at v - p.2) := by
    rw [en]
    have := Int.mul_ediv_self_le (x := 2 * (q.2 - p.2) * (v - p.1) + (q.1 - p.1)) (k := 2 * (q.1 - p.1)) (by omega)
    omega
  have n2 : ¬ 2 * (q.2 - p.2) * (v - p.1) + (q.1 - p.1) ≥ 2 * (q.1 - p.1) * (c.at v - p.2 + 1) := by
    rw [en]
    have := Int.lt_mul_ediv_self_add (x := 2 * (q.2 - p.2) * (v - p.1) + (q.1 - p.1)) (k := 2 * (q.1 - p.1)) hw
    rw [Int.mul_add, Int.mul_one]
    omega
  refine ⟨.dat (.int (c.at v)), .dat (.int (2 * (q.2 - p.2) * (v - p.1) + (q.1 - p.1))), ?_⟩
  have s1 : mSet 8 (mCallO "Curve" 2 m_Curve_call (mVar 0) (mCons (mVar 7) (pur []))) (lf c (.dat (.int k)) (.dat (.int p.1)) (.dat (.int p.2)) (.dat (.int (q.1 - p.1))) (.dat (.int (q.2 - p.2))) (.dat (.int v)) e8 e9) = some (.nx (lf c (.dat (.int k)) (.dat (.int p.1)) (.dat (.int p.2)) (.dat (.int (q.1 - p.1))) (.dat (.int (q.2 - p.2))) (.dat (.int v)) (.dat (.int (c.at v))) e9)) := by
    refine (set_run (callO_run (ε1 := lf c (.dat (.int k)) (.dat (.int p.1)) (.dat (.int p.2)) (.dat (.int (q.1 - p.1))) (.dat (.int (q.2 - p.2))) (.dat (.int v)) e8 e9) rfl (parts_crv c.p c.r) (one_run rfl) rfl (r_call c.G (v := v) (by omega) (by omega)))).trans ?_
    rfl
  unfold bd_law_line_1
  refine (seq_nx s1).trans ((seq_nx (if_not (fn_run (one_run rfl) rfl (r_whole _)))).trans ?_)
  simp only [mSeq, mSet, mThen, mIfS, mOr, mB, mOp, mVar, bnd, pur, lft, gAdd, gMul, DL.gSub, gI, lt_b, gGe, asB, List.getElem?_cons_succ, List.getElem?_cons_zero, List.set_cons_succ, List.set_cons_zero, m1, m2, m3, m4, m5, if_true, n1, n2, decide_false, Bool.false_eq_true, if_false, mNil]

theorem l_in {c : Cur} {k : Int} {p q : Pt} (h : p.1 < q.1) (h0 : 0 ≤ p.1) (h1 : q.1 ≤ 255) (y1 : 0 ≤ p.2 ∧ p.2 ≤ 255) (y2 : 0 ≤ q.2 ∧ q.2 ≤ 255) (hc : ∀ v, p.1 ≤ v → v ≤ q.1 → c.at v = seg p q v) : ∀ (items : List Int), (∀ v ∈ items, p.1 ≤ v ∧ v ≤ q.1) → ∀ e7 e8 e9, ∃ f7 f8 f9, forGo (gdName 7) bd_law_line_1 (items.map D.int) (lf c (.dat (.int k)) (.dat (.int p.1)) (.dat (.int p.2)) (.dat (.int (q.1 - p.1))) (.dat (.int (q.2 - p.2))) e7 e8 e9) = some (.nx (lf c (.dat (.int k)) (.dat (.int p.1)) (.dat (.int p.2)) (.dat (.int (q.1 - p.1))) (.dat (.int (q.2 - p.2))) f7 f8 f9))
  | [], _, e7, e8, e9 => ⟨e7, e8, e9, rfl⟩
  | v :: r, hv, e7, e8, e9 => by
    have b := hv v (List.mem_cons_self ..)
    obtain ⟨f8, f9, s⟩ := l_val (c := c) (k := k) h h0 h1 y1 y2 b.1 b.2 (hc v b.1 b.2) (e8 := e8) (e9 := e9)
    obtain ⟨g7, g8, g9, s2⟩ := l_in (k := k) h h0 h1 y1 y2 hc r (fun x hx => hv x (List.mem_cons_of_mem _ hx)) (.dat (.int v)) f8 f9
    exact ⟨g7, g8, g9, (for_step (i := 7) s).trans s2⟩
theorem l_body {c : Cur} {k : Int} {p q : Pt} (hp : gIx c.pts (.int k) = some (ptD p)) (hq : gIx c.pts (.int (k + 1)) = some (ptD q)) (h : p.1 < q.1) (h0 : 0 ≤ p.1) (h1 : q.1 ≤ 255) (y1 : 0 ≤ p.2 ∧ p.2 ≤ 255) (y2 : 0 ≤ q.2 ∧ q.2 ≤ 255) (hc : ∀ v, p.1 ≤ v → v ≤ q.1 → c.at v = seg p q v) (e3 e4 e5 e6 e7 e8 e9 : Ent) :
    ∃ f3 f4 f5 f6 f7 f8 f9, bd_law_line_2 (lf c (.dat (.int k)) e3 e4 e5 e6 e7 e8 e9) = some (.nx (lf c (.dat (.int k)) f3 f4 f5 f6 f7 f8 f9)) := by
  obtain ⟨f7, f8, f9, e⟩ := l_in (c := c) (k := k) h h0 h1 y1 y2 hc ((List.range (q.1 - p.1 + 1).toNat).map fun (j : Nat) => p.1 + (j : Int)) (fun v hv => by
    obtain ⟨j, hj, rfl⟩ := List.mem_map.mp hv
    have := List.mem_range.mp hj
    omega) e7 e8 e9
  refine ⟨.dat (.int p.1), .dat (.int p.2), .dat (.int (q.1 - p.1)), .dat (.int (q.2 - p.2)), f7, f8, f9, ?_⟩
  have s3 : mSet 3 (mOp gIx (mOp gIx (mVar 1) (mVar 2)) (pur (.int 0))) (lf c (.dat (.int k)) e3 e4 e5 e6 e7 e8 e9) = some (.nx (lf c (.dat (.int k)) (.dat (.int p.1)) e4 e5 e6 e7 e8 e9)) := by
    refine (set_run (op_run (ε2 := lf c (.dat (.int k)) e3 e4 e5 e6 e7 e8 e9) (op_run rfl rfl hp) rfl (pt0 p))).trans ?_
    rfl
  have s4 : mSet 4 (mOp gIx (mOp gIx (mVar 1) (mVar 2)) (pur (.int 1))) (lf c (.dat (.int k)) (.dat (.int p.1)) e4 e5 e6 e7 e8 e9) = some (.nx (lf c (.dat (.int k)) (.dat (.int p.1)) (.dat (.int p.2)) e5 e6 e7 e8 e9)) := by
    refine (set_run (op_run (ε2 := lf c (.dat (.int k)) (.dat (.int p.1)) e4 e5 e6 e7 e8 e9) (op_run rfl rfl hp) rfl (pt1 p))).trans ?_
    rfl
  have s5 : mSet 5 (mOp DL.gSub (mOp gIx (mOp gIx (mVar 1) (mOp gAdd (mVar 2) (pur (.int 1)))) (pur (.int 0))) (mVar 3)) (lf c (.dat (.int k)) (.dat (.int p.1)) (.dat (.int p.2)) e5 e6 e7 e8 e9) = some (.nx (lf c (.dat (.int k)) (.dat (.int p.1)) (.dat (.int p.2)) (.dat (.int (q.1 - p.1))) e6 e7 e8 e9)) := by
    refine (set_run (op_run (c := .int (q.1 - p.1)) (ε2 := lf c (.dat (.int k)) (.dat (.int p.1)) (.dat (.int p.2)) e5 e6 e7 e8 e9) (op_run (op_run rfl (op_run rfl rfl rfl) hq) rfl (pt0 q)) rfl rfl)).trans ?_
    rfl
  have s6 : mSet 6 (mOp DL.gSub (mOp gIx (mOp gIx (mVar 1) (mOp gAdd (mVar 2) (pur (.int 1)))) (pur (.int 1))) (mVar 4)) (lf c (.dat (.int k)) (.dat (.int p.1)) (.dat (.int p.2)) (.dat (.int (q.1 - p.1))) e6 e7 e8 e9) = some (.nx (lf c (.dat (.int k)) (.dat (.int p.1)) (.dat (.int p.2)) (.dat (.int (q.1 - p.1))) (.dat (.int (q.2 - p.2))) e7 e8 e9)) := by
    refine (set_run (op_run (c := .int (q.2 - p.2)) (ε2 := lf c (.dat (.int k)) (.dat (.int p.1)) (.dat (.int p.2)) (.dat (.int (q.1 - p.1))) e6 e7 e8 e9) (op_run (op_run rfl (op_run rfl rfl rfl) hq) rfl (pt1 q)) rfl rfl)).trans ?_
    rfl
  have rg : rng2 [.int p.1, .int (p.1 + (q.1 - p.1) + 1)] = some (((List.range (q.1 - p.1 + 1).toNat).map fun (j : Nat) => p.1 + (j : Int)).map D.int) := by
    rw [rng2_mk (by omega) (by omega) (by omega) (by omega), show p.1 + (q.1 - p.1) + 1 - p.1 = q.1 - p.1 + 1 by omega, List.map_map]
    rfl
  unfold bd_law_line_2
  refine (seq_nx s3).trans ((seq_nx s4).trans ((seq_nx s5).trans ((seq_nx s6).trans ?_)))
  refine (for_run (it_run (g := rng2) (a := [.int p.1, .int (p.1 + (q.1 - p.1) + 1)]) (two_run rfl (op_run (op_run rfl rfl rfl) rfl rfl)) rg)).trans ?_
  exact e
theorem l_loop {c : Cur} : ∀ (pre : List Pt) (p : Pt) (r : List Pt) (e2 e3 e4 e5 e6 e7 e8 e9 : Ent), c.ps = pre ++ p :: r → Chain p r → Ys p r → 0 ≤ p.1 → lastX p r ≤ 255 →
    ∃ f2 f3 f4 f5 f6 f7 f8 f9, forGo (gdName 2) bd_law_line_2 ((List.range' pre.length r.length).map fun (k : Nat) => D.int (k : Int)) (lf c e2 e3 e4 e5 e6 e7 e8 e9) = some (.nx (lf c f2 f3 f4 f5 f6 f7 f8 f9))
  | pre, p, [], e2, e3, e4, e5, e6, e7, e8, e9, _, _, _, _, _ => ⟨e2, e3, e4, e5, e6, e7, e8, e9, rfl⟩
  | pre, p, q :: r, e2, e3, e4, e5, e6, e7, e8, e9, hs, h, y, h0, h1 => by
    have hx := xs_in h q (List.mem_cons_self ..)
    have l1 : lastX p (q :: r) = lastX q r := rfl
    have g1 := at_pre pre p (q :: r)
    have g2 := at_pre (pre ++ [p]) q r
    rw [List.append_assoc, List.singleton_append, List.length_append, List.length_singleton] at g2
    rw [← hs] at g1 g2
    obtain ⟨a3, a4, a5, a6, a7, a8, a9, s⟩ := l_body (c := c) (k := (pre.length : Int)) (p := p) (q := q) g1 g2 h.1 h0 (by omega) y.1 (y.2 q (List.mem_cons_self ..)) (fun v v1 v2 => cv_seg pre c.G.ch hs v1 v2) e3 e4 e5 e6 e7 e8 e9
    obtain ⟨b2, b3, b4, b5, b6, b7, b8, b9, ih⟩ := l_loop (c := c) (pre ++ [p]) q r (.dat (.int (pre.length : Int))) a3 a4 a5 a6 a7 a8 a9 (by rw [hs]; simp) h.2 y.tl (by have := h.1; omega) (by omega)
    rw [List.length_append, List.length_singleton] at ih
    refine ⟨b2, b3, b4, b5, b6, b7, b8, b9, ?_⟩
    rw [List.length_cons, List.range'_succ, List.map_cons]
    exact (for_step s).trans ih
theorem len1 {c : Cur} {ε : List Ent} (h : ε[1]? = some (.dat c.pts)) : mLenN 1 ε = some (.ok (.int ((c.r.length + 1 : Nat) : Int)) ε) := by
  have := lenN_seq (T := c.pts) (ds := (c.p :: c.r).map ptD) rfl 1 (ε := ε) h
  rw [List.length_map, List.length_cons] at this
  exact this
theorem r_line (c : Cur) : m_law_line [c.ob, c.pts] = some (.ret (.bl true)) := by
  have x0 := c.G.x0
  have xl := c.G.xl
  obtain ⟨f2, f3, f4, f5, f6, f7, f8, f9, e⟩ := l_loop (c := c) [] c.p c.r .un .un .un .un .un .un .un .un rfl c.G.ch c.G.ys (by omega) (by omega)
  rw [List.length_nil] at e
  have it := it_run (g := rng1) (one_run (op_run (len1 (c := c) (ε := lf c .un .un .un .un .un .un .un .un) rfl) (f2 := pur (.int 1)) rfl (sub_one _))) (rg_len (Nat.le_trans c.G.len (by decide)))
  have g : g_law_line (lf c .un .un .un .un .un .un .un .un) = some (.rt (.bl true) (lf c f2 f3 f4 f5 f6 f7 f8 f9)) := by
    unfold g_law_line
    exact (seq_nx ((for_run it).trans e)).trans (ret_run rfl)
  exact congrArg ansOf g
/-! a curve that never falls -/
def Up : Pt → List Pt → Prop
  | _, [] => True
  | p, q :: r => p.2 ≤ q.2 ∧ Up q r
theorem cv_ge {v : Int} : ∀ {p : Pt} {r : List Pt}, Chain p r → Up p r → p.1 ≤ v → v ≤ lastX p r → p.2 ≤ cv p r v
  | p, [], _, _, _, _ => Int.le_refl _
  | p, q :: r, h, u, h1, h2 => by
    show p.2 ≤ (if v ≤ q.1 then seg p q v else cv q r v)
    by_cases hv : v ≤ q.1
    · rw [if_pos hv]; exact ((seg_in h.1 h1 hv).1 u.1).1
    · rw [if_neg hv]
      have := cv_ge h.2 u.2 (by omega) h2
      have := u.1
      omega
theorem seg_mono {p q : Pt} {v w : Int} (h : p.1 < q.1) (u : p.2 ≤ q.2) (hvw : v ≤ w) : seg p q v ≤ seg p q w := by
  unfold seg
  have m : 2 * (q.2 - p.2) * (v - p.1) ≤ 2 * (q.2 - p.2) * (w - p.1) := Int.mul_le_mul_of_nonneg_left (by omega) (by omega)
  have := Int.ediv_le_ediv (a := 2 * (q.2 - p.2) * (v - p.1) + (q.1 - p.1)) (b := 2 * (q.2 - p.2) * (w - p.1) + (q.1 - p.1)) (c := 2 * (q.1 - p.1)) (by omega) (by omega)
  omega
theorem cv_mono {v w : Int} : ∀ {p : Pt} {r : List Pt}, Chain p r → Up p r → p.1 ≤ v → v ≤ w → w ≤ lastX p r → cv p r v ≤ cv p r w
  | p, [], _, _, _, _, _ => Int.le_refl _
  | p, q :: r, h, u, h1, hvw, h2 => by
    show (if v ≤ q.1 then seg p q v else cv q r v) ≤ (if w ≤ q.1 then seg p q w else cv q r w)
    by_cases hw : w ≤ q.1
    · rw [if_pos hw, if_pos (by omega)]; exact seg_mono h.1 u.1 hvw
    · rw [if_neg hw]
      by_cases hv : v ≤ q.1
      · rw [if_pos hv]
        have a := ((seg_in h.1 h1 hv).1 u.1).2
        have b := cv_ge h.2 u.2 (v := w) (by omega) h2
        omega
      · rw [if_neg hv]
        exact cv_mono h.2 u.2 (by omega) hvw h2
abbrev sf (c : Cur) (e2 e3 e4 : Ent) : List Ent := [.dat c.ob, .dat c.pts, e2, e3, e4]
theorem u_step {c : Cur} {k : Int} {p q : Pt} {e3 e4 : Ent} (hp : gIx c.pts (.int k) = some (ptD p)) (hq : gIx c.pts (.int (k + 1)) = some (ptD q)) : bd_law_rises_1 (sf c (.dat (.int k)) e3 e4) = (if q.2 < p.2 then some (.rt (.bl true) (sf c (.dat (.int k)) e3 e4)) else some (.nx (sf c (.dat (.int k)) e3 e4))) := by
  have t : (mOp gLt (mOp gIx (mOp gIx (mVar 1) (mOp gAdd (mVar 2) (pur (.int 1)))) (pur (.int 1))) (mOp gIx (mOp gIx (mVar 1) (mVar 2)) (pur (.int 1)))) (sf c (.dat (.int k)) e3 e4) = some (.ok (.bl (decide (q.2 < p.2))) (sf c (.dat (.int k)) e3 e4)) :=
    op_run (op_run (op_run rfl (op_run rfl rfl rfl) hq) rfl (pt1 q)) (op_run (op_run rfl rfl hp) rfl (pt1 p)) lt_b
  unfold bd_law_rises_1
  by_cases h : q.2 < p.2
  · rw [if_pos h]
    exact (ifS_yes (mB_run (by rw [t]; simp [h]))).trans (ret_run rfl)
  · rw [if_neg h]
    exact ifS_no (mB_run (by rw [t]; simp [h]))
theorem u_loop {c : Cur} {e3 e4 : Ent} : ∀ (pre : List Pt) (p : Pt) (r : List Pt) (e2 : Ent), c.ps = pre ++ p :: r →
    (∃ ε, forGo (gdName 2) bd_law_rises_1 ((List.range' pre.length r.length).map fun (k : Nat) => D.int (k : Int)) (sf c e2 e3 e4) = some (.rt (.bl true) ε)) ∨ (Up p r ∧ ∃ f2, forGo (gdName 2) bd_law_rises_1 ((List.range' pre.length r.length).map fun (k : Nat) => D.int (k : Int)) (sf c e2 e3 e4) = some (.nx (sf c f2 e3 e4)))
  | pre, p, [], e2, _ => .inr ⟨trivial, e2, rfl⟩
  | pre, p, q :: r, e2, hs => by
    have g1 := at_pre pre p (q :: r)
    have g2 := at_pre (pre ++ [p]) q r
    rw [List.append_assoc, List.singleton_append, List.length_append, List.length_singleton] at g2
    rw [← hs] at g1 g2
    have s := u_step (c := c) (k := (pre.length : Int)) (e3 := e3) (e4 := e4) g1 g2
    have ih := u_loop (c := c) (e3 := e3) (e4 := e4) (pre ++ [p]) q r (.dat (.int (pre.length : Int))) (by rw [hs]; simp)
    rw [List.length_append, List.length_singleton] at ih
    rw [List.length_cons, List.range'_succ, List.map_cons]
    by_cases h : q.2 < p.2
    · rw [if_pos h] at s
      exact .inl ⟨_, for_ret s⟩
    · rw [if_neg h] at s
      rcases ih with ⟨ε, e⟩ | ⟨u, f2, e⟩
      · exact .inl ⟨ε, (for_step s).trans e⟩
      · exact .inr ⟨⟨by omega, u⟩, f2, (for_step s).trans e⟩
theorem v_loop {c : Cur} (u : Up c.p c.r) {e2 : Ent} : ∀ (n k : Nat) (last : Int) (e4 : Ent), k + n ≤ 256 → (∀ j : Nat, k ≤ j → j < 256 → last ≤ c.at (j : Int)) →
    ∃ l4 f4, forGo (gdName 4) bd_law_rises_2 ((List.range' k n).map fun (j : Nat) => D.int (j : Int)) (sf c e2 (.dat (.int last)) e4) = some (.nx (sf c e2 (.dat (.int l4)) f4))
  | 0, k, last, e4, _, _ => ⟨last, e4, rfl⟩
  | n + 1, k, last, e4, hk, hl => by
    have cl : ∀ e3, mCallO "Curve" 2 m_Curve_call (mVar 0) (mCons (mVar 4) (pur [])) (sf c e2 e3 (.dat (.int (k : Int)))) = some (.ok (.int (c.at (k : Int))) (sf c e2 e3 (.dat (.int (k : Int))))) := fun e3 =>
      callO_run (ε1 := sf c e2 e3 (.dat (.int (k : Int)))) rfl (parts_crv c.p c.r) (one_run rfl) rfl (r_call c.G (v := (k : Int)) (by omega) (by omega))
    have h1 := hl k (Nat.le_refl _) (by omega)
    have s : bd_law_rises_2 (sf c e2 (.dat (.int last)) (.dat (.int (k : Int)))) = some (.nx (sf c e2 (.dat (.int (c.at (k : Int)))) (.dat (.int (k : Int))))) := by
      unfold bd_law_rises_2
      refine (seq_nx (ifS_no (mB_run (op_run (cl _) rfl (by rw [lt_b]; simp; omega))))).trans ?_
      exact (set_run (cl _)).trans rfl
    obtain ⟨l4, f4, e⟩ := v_loop u n (k + 1) (c.at (k : Int)) (.dat (.int (k : Int))) (by omega) (fun j hj h256 => by
      have x0 := c.G.x0
      have xl := c.G.xl
      exact cv_mono c.G.ch u (by omega) (by omega) (by omega))
    refine ⟨l4, f4, ?_⟩
    rw [List.range'_succ, List.map_cons]
    exact (for_step s).trans e
theorem r_rises (c : Cur) : m_law_rises [c.ob, c.pts] = some (.ret (.bl true)) := by
  have it := it_run (g := rng1) (one_run (op_run (len1 (c := c) (ε := sf c .un .un .un) rfl) (f2 := pur (.int 1)) rfl (sub_one _))) (rg_len (Nat.le_trans c.G.len (by decide)))
  have l := u_loop (c := c) (e3 := .un) (e4 := .un) [] c.p c.r .un rfl
  rw [List.length_nil] at l
  have g : ∃ ε, g_law_rises (sf c .un .un .un) = some (.rt (.bl true) ε) := by
    unfold g_law_rises
    rcases l with ⟨ε, e⟩ | ⟨u, f2, e⟩
    · exact ⟨ε, seq_rt ((for_run it).trans e)⟩
    · obtain ⟨l4, f4, e2⟩ := v_loop (c := c) u (e2 := f2) 256 0 0 .un (by decide) (fun j _ hj => (c.in (v := (j : Int)) (by omega)).1)
      refine ⟨sf c f2 (.dat (.int l4)) f4, ?_⟩
      refine (seq_nx ((for_run it).trans e)).trans ((seq_nx (ε' := sf c f2 (.dat (.int 0)) .un) rfl).trans ?_)
      exact (seq_nx ((for_run (it_run (g := rng1) (one_run rfl) (rg_len (n := 256) (by decide)))).trans e2)).trans (ret_run rfl)
  obtain ⟨ε, e⟩ := g
  exact congrArg ansOf e

/-! what is drawn -/
theorem take_io (ps : List Int) {f : Mo D} {m : Int} {es : List Ent} (hm : 0 < m) (hf : f (.io (ps.map D.int) :: es) = some (.ok (.int m) (.io (ps.map D.int) :: es))) : ∃ (v : Int) (qs : List Int), mFnQ 0 2 m_law_take (mCons f (pur [])) (.io (ps.map D.int) :: es) = some (.ok (.int v) (.io (qs.map D.int) :: es)) ∧ 0 ≤ v ∧ v < m := by
  obtain ⟨v, q1, t, w0, w1⟩ := r_take ps hm
  exact ⟨v, q1, fnQ_io (one_run hf) rfl t, w0, w1⟩
theorem pick_io (ps : List Int) {f : Mo D} {ds : List D} {es : List Ent} (h0 : 0 < ds.length) (hf : f (.io (ps.map D.int) :: es) = some (.ok (.tup ds) (.io (ps.map D.int) :: es))) : ∃ (e : D) (qs : List Int), mFnQ 0 2 m_law_pick (mCons f (pur [])) (.io (ps.map D.int) :: es) = some (.ok e (.io (qs.map D.int) :: es)) ∧ e ∈ ds := by
  obtain ⟨j, q2, e, t2, hj, he⟩ := r_pick ps (d := .tup ds) rfl h0 (fun z h => nomatch h)
  exact ⟨e, q2, fnQ_io (one_run hf) rfl t2, List.mem_of_getElem? he⟩
theorem val_io (ps : List Int) {es : List Ent} : ∃ (v : Int) (qs : List Int), mFnQ 0 1 m_law_value (pur []) (.io (ps.map D.int) :: es) = some (.ok (.int v) (.io (qs.map D.int) :: es)) ∧ 0 ≤ v ∧ v ≤ 255 := by
  obtain ⟨v, q1, t, w0, w1⟩ := r_law_value ps
  exact ⟨v, q1, fnQ_io rfl rfl t, w0, w1⟩
theorem r_levs (ps : List Int) : ∃ (b w lo hi : Int) (qs : List Int), m_law_levels (ps.map D.int) [] = some (.ret (.tup [.int b, .int w, .int lo, .int hi]), qs.map D.int) ∧ levB b w lo hi = true := by
  obtain ⟨u, q1, t1, u0, u1⟩ := take_io ps (es := [.un, .un]) (m := 4) (f := pur (.int 4)) (by decide) rfl
  obtain ⟨b, q2, s1, b0, b1⟩ : ∃ (b : Int) (q2 : List Int), mSet 1 (mIf (mB (mOp gEqS (mFnQ 0 2 m_law_take (mCons (pur (.int 4)) (pur []))) (pur (.int 3)))) (mFnQ 0 2 m_law_pick (mCons (mTup (mCons (pur (.int 1)) (mCons (pur (.int 253)) (pur [])))) (pur []))) (mOp gAdd (pur (.int 1)) (mFnQ 0 2 m_law_take (mCons (pur (.int 253)) (pur []))))) [.io (ps.map D.int), .un, .un] = some (.nx [.io (q2.map D.int), .dat (.int b), .un]) ∧ 1 ≤ b ∧ b ≤ 253 := by
    by_cases h : u = 3
    · obtain ⟨e, q2, t2, he⟩ := pick_io q1 (es := [.un, .un]) (ds := [.int 1, .int 253]) (f := mTup (mCons (pur (.int 1)) (mCons (pur (.int 253)) (pur [])))) (by decide) rfl
      have : ∃ b : Int, e = .int b ∧ 1 ≤ b ∧ b ≤ 253 := by
        simp at he
        rcases he with rfl | rfl
        · exact ⟨1, rfl, by decide, by decide⟩
        · exact ⟨253, rfl, by decide, by decide⟩
      obtain ⟨b, rfl, x, y⟩ := this
      exact ⟨b, q2, (set_run ((if_yes (mB_run (op_run t1 rfl (eq_t h)))).trans t2)).trans rfl, x, y⟩
    · obtain ⟨v, q2, t2, v0, v1⟩ := take_io q1 (es := [.un, .un]) (m := 253) (f := pur (.int 253)) (by decide) rfl
      exact ⟨1 + v, q2, (set_run ((if_no (mB_run (op_run t1 rfl (eq_f h)))).trans (op_run rfl t2 rfl))).trans rfl, by omega, by omega⟩
  obtain ⟨v, q3, t3, v0, v1⟩ := take_io q2 (es := [.dat (.int b), .un]) (m := 254 - b) (f := mOp DL.gSub (pur (.int 254)) (mVar 1)) (by omega) (op_run rfl rfl rfl)
  have s2 : mSet 2 (mOp gAdd (mOp gAdd (mVar 1) (pur (.int 1))) (mFnQ 0 2 m_law_take (mCons (mOp DL.gSub (pur (.int 254)) (mVar 1)) (pur [])))) [.io (q2.map D.int), .dat (.int b), .un] = some (.nx [.io (q3.map D.int), .dat (.int b), .dat (.int (b + 1 + v))]) :=
    (set_run (op_run (op_run rfl rfl rfl) t3 rfl)).trans rfl
  obtain ⟨u2, q4, t4, _, _⟩ := take_io q3 (es := [.dat (.int b), .dat (.int (b + 1 + v))]) (m := 4) (f := pur (.int 4)) (by decide) rfl
  obtain ⟨w, s3, w0, w1⟩ : ∃ w : Int, mIfS (mB (mOp gEqS (mFnQ 0 2 m_law_take (mCons (pur (.int 4)) (pur []))) (pur (.int 3)))) (mSet 2 (pur (.int 254))) mNil [.io (q3.map D.int), .dat (.int b), .dat (.int (b + 1 + v))] = some (.nx [.io (q4.map D.int), .dat (.int b), .dat (.int w)]) ∧ b < w ∧ w ≤ 254 := by
    by_cases h : u2 = 3
    · exact ⟨254, (ifS_yes (mB_run (op_run t4 rfl (eq_t h)))).trans rfl, by omega, by decide⟩
    · exact ⟨b + 1 + v, ifS_no (mB_run (op_run t4 rfl (eq_f h))), by omega, by omega⟩
  obtain ⟨lo, q5, t5, l0, l1⟩ := val_io q4 (es := [.dat (.int b), .dat (.int w)])
  obtain ⟨hi, q6, t6, h0, h1⟩ := val_io q5 (es := [.dat (.int b), .dat (.int w)])
  refine ⟨b, w, lo, hi, q6, ?_, by simp [levB]; omega⟩
  refine runQ_go (ε := [.io (ps.map D.int), .un, .un]) rfl (es := [.dat (.int b), .dat (.int w)]) ?_
  unfold g_law_levels
  exact (seq_nx s1).trans ((seq_nx s2).trans ((seq_nx s3).trans (ret_run (tup_run (cons_run rfl (cons_run rfl (cons_run t5 (one_run t6)))) (by simp)))))
def big20 : Int := 100000000000000000000
theorem pow20 : (mOp gPow (pur (.int 10)) (pur (.int 20))) = (pur (.int big20) : Mo D) := by
  funext ε
  simp [mOp, bnd, pur, gPow, gI, lft, big20]
theorem neg_run {i : Int} {ε : List Ent} : mUn gNeg (pur (.int i)) ε = some (.ok (.int (-i)) ε) := rfl
theorem big20_big : 255 < big20 := by decide
theorem sk {j w : Int} {A : MoS} {ε : List Ent} {i : Nat} (h : mVar i ε = some (.ok (.int w) ε)) (hne : w ≠ j) : mIfS (mB (mOp gEqS (mVar i) (pur (.int j)))) A mNil ε = some (.nx ε) := ifS_no (mB_run (op_run h rfl (eq_f hne)))
theorem tk' {j w : Int} {A : MoS} {ε : List Ent} {i : Nat} (h : mVar i ε = some (.ok (.int w) ε)) (he : w = j) : mIfS (mB (mOp gEqS (mVar i) (pur (.int j)))) A mNil ε = A ε := ifS_yes (mB_run (op_run h rfl (eq_t he)))
abbrev of3 (ps : List Int) (b w lo hi : Int) (x : Ent) : List Ent := [.io (ps.map D.int), .dat (.tup [.int b, .int w, .int lo, .int hi]), x]
theorem r_off (ps : List Int) {b w lo hi : Int} (h : levB b w lo hi = true) : ∃ (b' w' lo' hi' : Int) (qs : List Int), m_law_off (ps.map D.int) [.tup [.int b, .int w, .int lo, .int hi]] = some (.ret (.tup [.int b', .int w', .int lo', .int hi']), qs.map D.int) ∧ levB b' w' lo' hi' = false := by
  have hb : (0 < b ∧ b < w ∧ w < 255) ∧ (0 ≤ lo ∧ lo ≤ 255) ∧ 0 ≤ hi ∧ hi ≤ 255 := by
    simp [levB] at h; omega
  have big := big20_big
  obtain ⟨u, q1, t1, u0, u1⟩ := take_io ps (es := [.dat (.tup [.int b, .int w, .int lo, .int hi]), .un]) (m := 6) (f := pur (.int 6)) (by decide) rfl
  have s1 : mSet 2 (mFnQ 0 2 m_law_take (mCons (pur (.int 6)) (pur []))) (of3 ps b w lo hi .un) = some (.nx (of3 q1 b w lo hi (.dat (.int u)))) := (set_run t1).trans rfl
  have i0 : ∀ qs x, (mOp gIx (mVar 1) (pur (.int 0))) (of3 qs b w lo hi x) = some (.ok (.int b) (of3 qs b w lo hi x)) := fun _ _ => rfl
  have i1 : ∀ qs x, (mOp gIx (mVar 1) (pur (.int 1))) (of3 qs b w lo hi x) = some (.ok (.int w) (of3 qs b w lo hi x)) := fun _ _ => rfl
  have i2 : ∀ qs x, (mOp gIx (mVar 1) (pur (.int 2))) (of3 qs b w lo hi x) = some (.ok (.int lo) (of3 qs b w lo hi x)) := fun _ _ => rfl
  have i3 : ∀ qs x, (mOp gIx (mVar 1) (pur (.int 3))) (of3 qs b w lo hi x) = some (.ok (.int hi) (of3 qs b w lo hi x)) := fun _ _ => rfl
  have go : ∀ {d : D} {qs : List Int} {x : Ent}, g_law_off (of3 ps b w lo hi .un) = some (.rt d (of3 qs b w lo hi x)) → m_law_off (ps.map D.int) [.tup [.int b, .int w, .int lo, .int hi]] = some (.ret d, qs.map D.int) := fun e => runQ_go rfl e
  by_cases w0 : u = 0
  · obtain ⟨e, q2, t2, he⟩ := pick_io q1 (es := [.dat (.tup [.int b, .int w, .int lo, .int hi]), .dat (.int u)]) (ds := [.int 0, .int (-1), .int (-big20)]) (f := mTup (mCons (pur (.int 0)) (mCons (mUn gNeg (pur (.int 1))) (mCons (mUn gNeg (mOp gPow (pur (.int 10)) (pur (.int 20)))) (pur []))))) (by decide) (tup_run (cons_run rfl (cons_run neg_run (one_run (by rw [pow20]; exact neg_run)))) (by simp))
    obtain ⟨b', rfl, hb'⟩ : ∃ b' : Int, e = .int b' ∧ b' ≤ 0 := by
      simp at he
      rcases he with rfl | rfl | rfl
      · exact ⟨_, rfl, by decide⟩
      · exact ⟨_, rfl, by decide⟩
      · exact ⟨_, rfl, by omega⟩
    refine ⟨b', w, lo, hi, q2, go (x := .dat (.int u)) ?_, by simp [levB]; omega⟩
    unfold g_law_off
    exact (seq_nx s1).trans (seq_rt ((tk' rfl w0).trans (ret_run (tup_run (cons_run t2 (cons_run (i1 _ _) (cons_run (i2 _ _) (one_run (i3 _ _))))) (by simp)))))
  by_cases w1 : u = 1
  · obtain ⟨e, q2, t2, he⟩ := pick_io q1 (es := [.dat (.tup [.int b, .int w, .int lo, .int hi]), .dat (.int u)]) (ds := [.int 255, .int 256, .int big20]) (f := mTup (mCons (pur (.int 255)) (mCons (pur (.int 256)) (mCons (mOp gPow (pur (.int 10)) (pur (.int 20))) (pur []))))) (by decide) (tup_run (cons_run rfl (cons_run rfl (one_run (by rw [pow20]; rfl)))) (by simp))
    obtain ⟨w', rfl, hw'⟩ : ∃ w' : Int, e = .int w' ∧ 255 ≤ w' := by
      simp at he
      rcases he with rfl | rfl | rfl
      · exact ⟨_, rfl, by decide⟩
      · exact ⟨_, rfl, by decide⟩
      · exact ⟨_, rfl, by omega⟩
    refine ⟨b, w', lo, hi, q2, go (x := .dat (.int u)) ?_, by simp [levB]; omega⟩
    unfold g_law_off
    exact (seq_nx s1).trans ((seq_nx (sk rfl w0)).trans (seq_rt ((tk' rfl w1).trans (ret_run (tup_run (cons_run (i0 _ _) (cons_run t2 (cons_run (i2 _ _) (one_run (i3 _ _))))) (by simp))))))
  by_cases w2 : u = 2
  · refine ⟨w, w, lo, hi, q1, go (x := .dat (.int u)) ?_, by simp [levB]⟩
    unfold g_law_off
    exact (seq_nx s1).trans ((seq_nx (sk rfl w0)).trans ((seq_nx (sk rfl w1)).trans (seq_rt ((tk' rfl w2).trans (ret_run (tup_run (cons_run (i1 _ _) (cons_run (i1 _ _) (cons_run (i2 _ _) (one_run (i3 _ _))))) (by simp)))))))
  by_cases w3 : u = 3
  · refine ⟨w, b, lo, hi, q1, go (x := .dat (.int u)) ?_, by simp [levB]; omega⟩
    unfold g_law_off
    exact (seq_nx s1).trans ((seq_nx (sk rfl w0)).trans ((seq_nx (sk rfl w1)).trans ((seq_nx (sk rfl w2)).trans (seq_rt ((tk' rfl w3).trans (ret_run (tup_run (cons_run (i1 _ _) (cons_run (i0 _ _) (cons_run (i2 _ _) (one_run (i3 _ _))))) (by simp))))))))
  by_cases w4 : u = 4
  · obtain ⟨e, q2, t2, he⟩ := pick_io q1 (es := [.dat (.tup [.int b, .int w, .int lo, .int hi]), .dat (.int u)]) (ds := [.int (-1), .int 256]) (f := mTup (mCons (mUn gNeg (pur (.int 1))) (mCons (pur (.int 256)) (pur [])))) (by decide) rfl
    obtain ⟨l', rfl, hl'⟩ : ∃ l' : Int, e = .int l' ∧ ¬ (0 ≤ l' ∧ l' ≤ 255) := by
      simp at he
      rcases he with rfl | rfl
      · exact ⟨_, rfl, by decide⟩
      · exact ⟨_, rfl, by decide⟩
    refine ⟨b, w, l', hi, q2, go (x := .dat (.int u)) ?_, by simp [levB]; omega⟩
    unfold g_law_off
    exact (seq_nx s1).trans ((seq_nx (sk rfl w0)).trans ((seq_nx (sk rfl w1)).trans ((seq_nx (sk rfl w2)).trans ((seq_nx (sk rfl w3)).trans (seq_rt ((tk' rfl w4).trans (ret_run (tup_run (cons_run (i0 _ _) (cons_run (i1 _ _) (cons_run t2 (one_run (i3 _ _))))) (by simp)))))))))
  · obtain ⟨e, q2, t2, he⟩ := pick_io q1 (es := [.dat (.tup [.int b, .int w, .int lo, .int hi]), .dat (.int u)]) (ds := [.int 256, .int (-1)]) (f := mTup (mCons (pur (.int 256)) (mCons (mUn gNeg (pur (.int 1))) (pur [])))) (by decide) rfl
    obtain ⟨h', rfl, hh'⟩ : ∃ l' : Int, e = .int l' ∧ ¬ (0 ≤ l' ∧ l' ≤ 255) := by
      simp at he
      rcases he with rfl | rfl
      · exact ⟨_, rfl, by decide⟩
      · exact ⟨_, rfl, by decide⟩
    refine ⟨b, w, lo, h', q2, go (x := .dat (.int u)) ?_, by simp [levB]; omega⟩
    unfold g_law_off
    exact (seq_nx s1).trans ((seq_nx (sk rfl w0)).trans ((seq_nx (sk rfl w1)).trans ((seq_nx (sk rfl w2)).trans ((seq_nx (sk rfl w3)).trans ((seq_nx (sk rfl w4)).trans (ret_run (tup_run (cons_run (i0 _ _) (cons_run (i1 _ _) (cons_run (i2 _ _) (one_run t2)))) (by simp))))))))

/-! the four makers -/
theorem app_run {i : Nat} {f : Mo D} {ε ε1 : List Ent} {d : D} {ds : List D} (h : f ε = some (.ok d ε1)) (h0 : (ε[i]?).bind Ent.get ≠ none) (h1 : ε1[i]? = some (.own ds)) (hl : ds.length < 1000000) : mApp i f ε = some (.nx (ε1.set i (.own (ds ++ [d])))) := by
  cases h2 : (ε[i]?).bind Ent.get with
  | none => exact absurd h2 h0
  | some p =>
    simp [mApp, h2, mThen, h, h1, Ent.get, Ent.put, hl]
abbrev levT (b w lo hi : Int) : D := .tup [.int b, .int w, .int lo, .int hi]
abbrev mf (ps : List Int) (F : D) (n : Int) (e3 e4 e5 e6 e7 e8 : Ent) : List Ent := [.io (ps.map D.int), .dat F, .dat (.int n), e3, e4, e5, e6, e7, e8]
theorem seg_flat {p q : Pt} {v : Int} (h : p.1 < q.1) (e : q.2 = p.2) : seg p q v = p.2 := by
  unfold seg
  rw [e, show 2 * (p.2 - p.2) * (v - p.1) + (q.1 - p.1) = q.1 - p.1 by rw [Int.sub_self, Int.mul_zero, Int.zero_mul, Int.zero_add], Int.ediv_eq_zero_of_lt (by omega) (by omega), Int.add_zero]
theorem thr_at {n : Int} (h1 : 1 ≤ n) (h2 : n ≤ 255) {v : Int} (v0 : 0 ≤ v) (v1 : v ≤ 255) : (cThr n h1 h2).at v = if v < n then 0 else 255 := by
  show cv (0, 0) (thrR n) v = _
  unfold thrR
  by_cases a : 1 < n
  · by_cases b : n < 255
    · rw [if_pos a, if_pos b]
      show (if v ≤ n - 1 then seg (0, 0) (n - 1, 0) v else if v ≤ n then seg (n - 1, 0) (n, 255) v else if v ≤ 255 then seg (n, 255) (255, 255) v else 255) = _
      by_cases e : v ≤ n - 1
      · rw [if_pos e, if_pos (by omega)]
        exact seg_flat (p := (0, 0)) (q := (n - 1, 0)) (by show (0 : Int) < n - 1; omega) rfl
      · rw [if_neg e, if_neg (by omega : ¬ v < n)]
        by_cases e2 : v ≤ n
        · rw [if_pos e2]
          have : v = n := by omega
          subst this
          exact seg_hi (v - 1, 0) (v, 255) (by show v - 1 < v; omega)
        · rw [if_neg e2, if_pos v1]
          exact seg_flat (p := (n, 255)) (q := (255, 255)) (by show n < 255; omega) rfl
    · have : n = 255 := by omega
      subst this
      rw [if_pos a, if_neg b]
      show (if v ≤ 255 - 1 then seg (0, 0) (255 - 1, 0) v else if v ≤ 255 then seg (255 - 1, 0) (255, 255) v else 255) = _
      by_cases e : v ≤ 255 - 1
      · rw [if_pos e, if_pos (by omega)]
        exact seg_flat (p := (0, 0)) (q := (255 - 1, 0)) (by decide) rfl
      · rw [if_neg e, if_neg (by omega : ¬ v < 255), if_pos v1]
        have : v = 255 := by omega
        subst this
        exact seg_hi (255 - 1, 0) (255, 255) (by decide)
  · have : n = 1 := by omega
    subst this
    rw [if_neg a, if_pos (by decide)]
    show (if v ≤ 1 then seg (0, 0) (1, 255) v else if v ≤ 255 then seg (1, 255) (255, 255) v else 255) = _
    by_cases e : v ≤ 1
    · rw [if_pos e]
      by_cases e0 : v < 1
      · rw [if_pos e0]
        have : v = 0 := by omega
        subst this
        exact seg_lo (0, 0) (1, 255) (by decide)
      · rw [if_neg e0]
        have : v = 1 := by omega
        subst this
        exact seg_hi (0, 0) (1, 255) (by decide)
    · rw [if_neg e, if_pos v1, if_neg (by omega : ¬ v < 1)]
      exact seg_flat (p := (1, 255)) (q := (255, 255)) (by decide) rfl
theorem is_run {f g : Mo D} {ε ε1 ε2 : List Ent} {c : Cur} (h1 : f ε = some (.ok c.ob ε1)) (h2 : g ε1 = some (.ok c.pts ε2)) : mFn 2 m_law_is (mCons f (mCons g (pur []))) ε = some (.ok (.bl true) ε2) := fn_run (two_run h1 h2) rfl (r_is c)
theorem call_c {ε : List Ent} {i j : Nat} {c : Cur} {v : Int} (h1 : mVar i ε = some (.ok c.ob ε)) (h2 : mVar j ε = some (.ok (.int v) ε)) (v0 : 0 ≤ v) (v1 : v ≤ 255) : mCallO "Curve" 2 m_Curve_call (mVar i) (mCons (mVar j) (pur [])) ε = some (.ok (.int (c.at v)) ε) :=
  callO_run h1 (parts_crv c.p c.r) (one_run h2) rfl (r_call c.G v0 v1)
theorem mk_body {ps : List Int} {F : D} {n : Int} (h1 : 1 ≤ n) (h2 : n ≤ 255) {e3 e4 : Ent} {v : Int} (v0 : 0 ≤ v) (v1 : v ≤ 255) : bd_law_makers_1 (mf ps F n e3 e4 (.dat cId.ob) (.dat cIv.ob) (.dat (cThr n h1 h2).ob) (.dat (.int v))) = some (.nx (mf ps F n e3 e4 (.dat cId.ob) (.dat cIv.ob) (.dat (cThr n h1 h2).ob) (.dat (.int v)))) := by
  have a1 : cId.at v = v := cv_id v1
  have a2 : cIv.at v = 255 - v := cv_iv v1
  have a3 := thr_at h1 h2 v0 v1
  have s1 := call_c (i := 5) (j := 8) (c := cId) (ε := mf ps F n e3 e4 (.dat cId.ob) (.dat cIv.ob) (.dat (cThr n h1 h2).ob) (.dat (.int v))) rfl rfl v0 v1
  have s2 := call_c (i := 6) (j := 8) (c := cIv) (ε := mf ps F n e3 e4 (.dat cId.ob) (.dat cIv.ob) (.dat (cThr n h1 h2).ob) (.dat (.int v))) rfl rfl v0 v1
  have s3 := call_c (i := 7) (j := 8) (c := cThr n h1 h2) (ε := mf ps F n e3 e4 (.dat cId.ob) (.dat cIv.ob) (.dat (cThr n h1 h2).ob) (.dat (.int v))) rfl rfl v0 v1
  rw [a1] at s1
  rw [a2] at s2
  rw [a3] at s3
  have s4 : (mIf (mB (mOp gLt (mVar 8) (mVar 2))) (pur (.int 0)) (pur (.int 255))) (mf ps F n e3 e4 (.dat cId.ob) (.dat cIv.ob) (.dat (cThr n h1 h2).ob) (.dat (.int v))) = some (.ok (.int (if v < n then 0 else 255)) (mf ps F n e3 e4 (.dat cId.ob) (.dat cIv.ob) (.dat (cThr n h1 h2).ob) (.dat (.int v)))) := by
    by_cases h : v < n
    · rw [if_pos h]; exact (if_yes (mB_run (op_run rfl rfl (by rw [lt_b]; simp [h])))).trans rfl
    · rw [if_neg h]; exact (if_no (mB_run (op_run rfl rfl (by rw [lt_b]; simp [h])))).trans rfl
  unfold bd_law_makers_1
  exact ifS_no (or_ff (not_run (mB_run (fn_run (two_run s1 rfl) rfl (same_int v)))) (or_ff (not_run (mB_run (fn_run (two_run s2 (op_run rfl rfl rfl)) rfl (same_int (255 - v))))) (not_run (mB_run (fn_run (two_run s3 s4) rfl (same_int _))))))
theorem mk_loop {ps : List Int} {F : D} {n : Int} (h1 : 1 ≤ n) (h2 : n ≤ 255) {e3 e4 : Ent} : ∀ (items : List Int) (e8 : Ent), (∀ v ∈ items, 0 ≤ v ∧ v ≤ 255) → ∃ f8, forGo (gdName 8) bd_law_makers_1 (items.map D.int) (mf ps F n e3 e4 (.dat cId.ob) (.dat cIv.ob) (.dat (cThr n h1 h2).ob) e8) = some (.nx (mf ps F n e3 e4 (.dat cId.ob) (.dat cIv.ob) (.dat (cThr n h1 h2).ob) f8))
  | [], e8, _ => ⟨e8, rfl⟩
  | v :: r, e8, h => by
    have b := h v (List.mem_cons_self ..)
    obtain ⟨f8, e⟩ := mk_loop (ps := ps) (F := F) h1 h2 (e3 := e3) (e4 := e4) r (.dat (.int v)) fun x hx => h x (List.mem_cons_of_mem _ hx)
    exact ⟨f8, (for_step (i := 8) (mk_body h1 h2 b.1 b.2)).trans e⟩
theorem r_makers (ps : List Int) {b w lo hi n : Int} (h : levB b w lo hi = true) (n1 : 1 ≤ n) (n2 : n ≤ 255) : ∃ qs : List Int, m_law_makers (ps.map D.int) [levT b w lo hi, .int n] = some (.ret (.bl true), qs.map D.int) := by
  obtain ⟨v1, q1, t1, a1, b1⟩ := take_io ps (es := [.dat (levT b w lo hi), .dat (.int n), .dat (cLev b w lo hi h).pts, .dat (.lst ((cThr n n1 n2).ps.map ptD)), .dat cId.ob, .dat cIv.ob, .dat (cThr n n1 n2).ob, .un]) (m := 256) (f := pur (.int 256)) (by decide) rfl
  obtain ⟨v2, q2, t2, a2, b2⟩ := take_io q1 (es := [.dat (levT b w lo hi), .dat (.int n), .dat (cLev b w lo hi h).pts, .dat (.lst ((cThr n n1 n2).ps.map ptD)), .dat cId.ob, .dat cIv.ob, .dat (cThr n n1 n2).ob, .un]) (m := 256) (f := pur (.int 256)) (by decide) rfl
  obtain ⟨f8, lp⟩ := mk_loop (ps := q2) (F := levT b w lo hi) n1 n2 (e3 := .dat (cLev b w lo hi h).pts) (e4 := .dat (.lst ((cThr n n1 n2).ps.map ptD))) [0, 255, n - 1, n, v1, v2] .un (fun v hv => by
    simp at hv
    rcases hv with rfl | rfl | rfl | rfl | rfl | rfl <;> omega)
  refine ⟨q2, ?_⟩
  have lev : ∀ e3 e4, mFn 4 m_Curve_levels (mCons (mOp gIx (mVar 1) (pur (.int 0))) (mCons (mOp gIx (mVar 1) (pur (.int 1))) (mCons (mOp gIx (mVar 1) (pur (.int 2))) (mCons (mOp gIx (mVar 1) (pur (.int 3))) (pur []))))) (mf ps (levT b w lo hi) n e3 e4 .un .un .un .un) = some (.ok (cLev b w lo hi h).ob (mf ps (levT b w lo hi) n e3 e4 .un .un .un .un)) := fun _ _ =>
    fn_run (cons_run (op_run rfl rfl rfl) (cons_run (op_run rfl rfl rfl) (cons_run (op_run rfl rfl rfl) (one_run (op_run rfl rfl rfl))))) rfl (r_levels h)
  have thr : ∀ {qs : List Int} {e3 e4 e5 e6 e7 e8}, mFn 1 m_Curve_threshold (mCons (mVar 2) (pur [])) (mf qs (levT b w lo hi) n e3 e4 e5 e6 e7 e8) = some (.ok (cThr n n1 n2).ob (mf qs (levT b w lo hi) n e3 e4 e5 e6 e7 e8)) := fun {_ _ _ _ _ _ _} => fn_run (one_run rfl) rfl (r_threshold n1 n2)
  have s3 : mSet 3 (mTup (mCons (mTup (mCons (pur (.int 0)) (mCons (mOp gIx (mVar 1) (pur (.int 2))) (pur [])))) (mCons (mTup (mCons (mOp gIx (mVar 1) (pur (.int 0))) (mCons (mOp gIx (mVar 1) (pur (.int 2))) (pur [])))) (mCons (mTup (mCons (mOp gIx (mVar 1) (pur (.int 1))) (mCons (mOp gIx (mVar 1) (pur (.int 3))) (pur [])))) (mCons (mTup (mCons (pur (.int 255)) (mCons (mOp gIx (mVar 1) (pur (.int 3))) (pur [])))) (pur [])))))) (mf ps (levT b w lo hi) n .un .un .un .un .un .un) = some (.nx (mf ps (levT b w lo hi) n (.dat (cLev b w lo hi h).pts) .un .un .un .un .un)) := rfl
  have steps : ∃ ε : List Ent, (mSeq (mSetO 4 (mLstO (mCons (mTup (mCons (pur (.int 0)) (mCons (pur (.int 0)) (pur [])))) (pur []))))
    (mSeq (mIfS (mB (mOp gGt (mVar 2) (pur (.int 1)))) (mApp 4 (mTup (mCons (mOp DL.gSub (mVar 2) (pur (.int 1))) (mCons (pur (.int 0)) (pur []))))) mNil)
    (mSeq (mApp 4 (mTup (mCons (mVar 2) (mCons (pur (.int 255)) (pur [])))))
    (mIfS (mB (mOp gLt (mVar 2) (pur (.int 255)))) (mApp 4 (mTup (mCons (pur (.int 255)) (mCons (pur (.int 255)) (pur []))))) mNil)))) (mf ps (levT b w lo hi) n (.dat (cLev b w lo hi h).pts) .un .un .un .un .un) = some (.nx (mf ps (levT b w lo hi) n (.dat (cLev b w lo hi h).pts) (.own ((cThr n n1 n2).ps.map ptD)) .un .un .un .un)) := ⟨[], by
    by_cases a : 1 < n
    · have i1 : ∀ X, mIfS (mB (mOp gGt (mVar 2) (pur (.int 1)))) X mNil (mf ps (levT b w lo hi) n (.dat (cLev b w lo hi h).pts) (.own [ptD (0, 0)]) .un .un .un .un) = X (mf ps (levT b w lo hi) n (.dat (cLev b w lo hi h).pts) (.own [ptD (0, 0)]) .un .un .un .un) := fun X => ifS_yes (mB_run (op_run rfl rfl (by rw [gt_b]; simp [a])))
      by_cases c : n < 255
      · have i2 : ∀ X Y, mIfS (mB (mOp gLt (mVar 2) (pur (.int 255)))) X mNil (mf ps (levT b w lo hi) n (.dat (cLev b w lo hi h).pts) Y .un .un .un .un) = X (mf ps (levT b w lo hi) n (.dat (cLev b w lo hi h).pts) Y .un .un .un .un) := fun X Y => ifS_yes (mB_run (op_run rfl rfl (by rw [lt_b]; simp [c])))
        have ee : (cThr n n1 n2).ps.map ptD = [ptD (0, 0), ptD (n - 1, 0), ptD (n, 255), ptD (255, 255)] := by simp [Cur.ps, cThr, thrR, a, c]
        rw [ee]
        exact (seq_nx rfl).trans ((seq_nx ((i1 _).trans rfl)).trans ((seq_nx rfl).trans ((i2 _ _).trans rfl)))
      · have i2 : ∀ X Y, mIfS (mB (mOp gLt (mVar 2) (pur (.int 255)))) X mNil (mf ps (levT b w lo hi) n (.dat (cLev b w lo hi h).pts) Y .un .un .un .un) = some (.nx (mf ps (levT b w lo hi) n (.dat (cLev b w lo hi h).pts) Y .un .un .un .un)) := fun X Y => ifS_no (mB_run (op_run rfl rfl (by rw [lt_b]; simp [c])))
        have ee : (cThr n n1 n2).ps.map ptD = [ptD (0, 0), ptD (n - 1, 0), ptD (n, 255)] := by simp [Cur.ps, cThr, thrR, a, c]
        rw [ee]
        exact (seq_nx rfl).trans ((seq_nx ((i1 _).trans rfl)).trans ((seq_nx rfl).trans ((i2 _ _).trans rfl)))
    · have i1 : ∀ X, mIfS (mB (mOp gGt (mVar 2) (pur (.int 1)))) X mNil (mf ps (levT b w lo hi) n (.dat (cLev b w lo hi h).pts) (.own [ptD (0, 0)]) .un .un .un .un) = some (.nx (mf ps (levT b w lo hi) n (.dat (cLev b w lo hi h).pts) (.own [ptD (0, 0)]) .un .un .un .un)) := fun X => ifS_no (mB_run (op_run rfl rfl (by rw [gt_b]; simp [a])))
      have c : n < 255 := by omega
      have i2 : ∀ X Y, mIfS (mB (mOp gLt (mVar 2) (pur (.int 255)))) X mNil (mf ps (levT b w lo hi) n (.dat (cLev b w lo hi h).pts) Y .un .un .un .un) = X (mf ps (levT b w lo hi) n (.dat (cLev b w lo hi h).pts) Y .un .un .un .un) := fun X Y => ifS_yes (mB_run (op_run rfl rfl (by rw [lt_b]; simp [c])))
      have ee : (cThr n n1 n2).ps.map ptD = [ptD (0, 0), ptD (n, 255), ptD (255, 255)] := by simp [Cur.ps, cThr, thrR, a, c]
      rw [ee]
      exact (seq_nx rfl).trans ((seq_nx (i1 _)).trans ((seq_nx rfl).trans ((i2 _ _).trans rfl)))⟩
  obtain ⟨_, steps⟩ := steps
  have split4 : ∀ {a b c d m : MoS} {ε ε' : List Ent}, mSeq a (mSeq b (mSeq c d)) ε = some (.nx ε') → mSeq a (mSeq b (mSeq c (mSeq d m))) ε = m ε' := fun {a b c d m ε ε'} e => by
    unfold mSeq at e ⊢
    cases ha : a ε with
    | none => rw [ha] at e; cases e
    | some ra =>
      cases ra with
      | nx ε1 =>
        rw [ha] at e
        dsimp only at e ⊢
        cases hb : b ε1 with
        | none => rw [hb] at e; cases e
        | some rb =>
          cases rb with
          | nx ε2 =>
            rw [hb] at e
            dsimp only at e ⊢
            cases hc : c ε2 with
            | none => rw [hc] at e; cases e
            | some rc =>
              cases rc with
              | nx ε3 =>
                rw [hc] at e
                dsimp only at e ⊢
                rw [e]
              | _ => rw [hc] at e; cases e
          | _ => rw [hb] at e; cases e
      | _ => rw [ha] at e; cases e
  refine runQ_go (ε := mf ps (levT b w lo hi) n .un .un .un .un .un .un) rfl (es := [.dat (levT b w lo hi), .dat (.int n), .dat (cLev b w lo hi h).pts, .dat (.lst ((cThr n n1 n2).ps.map ptD)), .dat cId.ob, .dat cIv.ob, .dat (cThr n n1 n2).ob, f8]) ?_
  unfold g_law_makers
  refine (seq_nx (ifS_no (or_ff (not_run (mB_run (is_run (c := cId) (fn_run rfl rfl r_identity) rfl))) (not_run (mB_run (is_run (c := cIv) (fn_run rfl rfl r_inverted) rfl)))))).trans ?_
  refine (seq_nx s3).trans ?_
  refine (seq_nx (if_not (is_run (lev _ _) rfl))).trans ?_
  refine (seq_nx (if_not (fn_run (two_run (lev _ _) rfl) rfl (r_line (cLev b w lo hi h))))).trans ?_
  refine (split4 steps).trans ?_
  refine (seq_nx (if_not (is_run (ε2 := mf ps (levT b w lo hi) n (.dat (cLev b w lo hi h).pts) (.dat (.lst ((cThr n n1 n2).ps.map ptD))) .un .un .un .un) thr (call_run (one_run rfl) rfl)))).trans ?_
  refine (seq_nx (set_run (fn_run rfl rfl r_identity))).trans ((seq_nx (set_run (fn_run rfl rfl r_inverted))).trans ((seq_nx (set_run thr)).trans ?_))
  refine (seq_nx ((for_run (it_run (g := tupOf) (tup_run (cons_run rfl (cons_run rfl (cons_run (op_run rfl rfl rfl) (cons_run rfl (cons_run t1 (one_run t2)))))) (by simp)) rfl)).trans lp)).trans ?_
  exact ret_run rfl

/-! the faulty points -/
theorem ixN_nn {n k : Nat} (h : k < n) : ixN n (k : Int) = some k := by
  simp [ixN, h]
theorem put_at {i : Nat} {fv fk : Mo D} {ε ε1 ε2 : List Ent} {d : D} {k : Nat} {R : List D} (h1 : fv ε = some (.ok d ε1)) {p0 : List D} (hp : (ε1[i]?).bind Ent.get = some p0) (h2 : fk ε1 = some (.ok (.int (k : Int)) ε2)) (h3 : ε2[i]? = some (.own R)) (hk : k < R.length) : mPut i fv fk ε = some (.nx (ε2.set i (.own (R.set k d)))) := by
  simp [mPut, mThen, h1, hp, h2, h3, Ent.get, Ent.put, ixN_nn hk]
theorem ins_at {i : Nat} {fa : Mo (List D)} {ε ε1 : List Ent} {d : D} {k : Nat} {R : List D} {p0 : List D} (hp : (ε[i]?).bind Ent.get = some p0) (h1 : fa ε = some (.ok [.int (k : Int), d] ε1)) (h3 : ε1[i]? = some (.own R)) (hl : R.length < 1000000) (hk : k < 1000000) : mIns i fa ε = some (.nx (ε1.set i (.own (R.take k ++ [d] ++ R.drop k)))) := by
  have h5 : (k : Int) < 1000000000 := by omega
  simp [mIns, mThen, hp, h1, h3, insArg, Ent.get, Ent.put, hl, h5]
theorem r_are_short {ds : List D} (h : lenB ds.length = false) (hl : ds.length ≤ 1000000) : m_are_points [.tup ds] = some (.ret (.bl false)) := by
  have L := a_len (T := .tup ds) (n := ds.length) (lenN_seq (T := .tup ds) (ds := ds) rfl 0 (ε := af (.tup ds)) rfl)
  rw [h] at L
  have e : g_are_points (af (.tup ds)) = some (.rt (.bl false) (af (.tup ds))) := by
    unfold g_are_points
    exact seq_rt ((ifS_yes (not_run (mB_run L))).trans (ret_run rfl))
  exact congrArg ansOf e
theorem are_ys {ps : List Pt} {q : Pt} (h : q ∈ ps) (hq : ¬ (0 ≤ q.2 ∧ q.2 ≤ 255)) : areB ps = false := by
  unfold areB
  have : (ps.all fun q => decide (0 ≤ q.2 ∧ q.2 ≤ 255)) = false := by
    rw [List.all_eq_false]
    exact ⟨q, h, by simpa using hq⟩
  rw [this, Bool.and_false]
theorem are_two {ps : List Pt} {i : Nat} {p q : Pt} (h1 : ps[i]? = some p) (h2 : ps[i + 1]? = some q) (hq : q.1 ≤ p.1) : areB ps = false := by
  unfold areB
  have : ((pairsP ps).any fun q => decide (q.2.1 ≤ q.1.1)) = true := by
    rw [List.any_eq_true]
    refine ⟨(p, q), ?_, by simpa using hq⟩
    have : (pairsP ps)[i]? = some (p, q) := by
      unfold pairsP
      rw [List.getElem?_zip_eq_some]
      exact ⟨h1, by rw [List.getElem?_tail]; exact h2⟩
    exact List.mem_of_getElem? this
  rw [this]
  simp
theorem are_head {p : Pt} {r : List Pt} (h : p.1 ≠ 0) : areB (p :: r) = false := by
  unfold areB
  simp [h]
theorem are_last {ps : List Pt} {q : Pt} (h : ps.getLast? = some q) (hq : q.1 ≠ 255) : areB ps = false := by
  unfold areB
  rw [h]
  simp [hq]
/-- one odd point -/
theorem r_are_odd {ds : List D} {t : List D} {k : Nat} (hl : ds.length ≤ 1000) (hall : ∀ d ∈ ds, ∃ xs, d = .tup xs ∧ xs.length ≤ 1000) (hk : ds[k]? = some (.tup t)) (ht : t.length ≠ 2) : m_are_points [.tup ds] = some (.ret (.bl false)) := by
  by_cases hb : lenB ds.length = false
  · exact r_are_short hb (by omega)
  rw [Bool.not_eq_false] at hb
  have L := a_len (T := .tup ds) (n := ds.length) (lenN_seq (T := .tup ds) (ds := ds) rfl 0 (ε := af (.tup ds)) rfl)
  rw [hb] at L
  let tl : D → Bool := fun d => match d with | .tup xs => ((xs.length : Int) != 2) | _ => false
  have h1 : (bnd (mVar 0) fun d => lft (tupOf d)) (af (.tup ds)) = some (.ok ((ds.map fun d => (d, D.bl (tl d))).map Prod.fst) (af (.tup ds))) := by
    rw [List.map_map, show (Prod.fst ∘ fun d => (d, D.bl (tl d))) = id from rfl, List.map_id]; rfl
  have c2 := mlc_rel (vs := [1]) (t := gdName 1) (te := bd_are_points_1) (ε1 := af (.tup ds)) (ε2 := af (.tup ds)) (ds.map fun d => (d, D.bl (tl d))) h1 (by simp; omega) rfl (fun q hq => by
    obtain ⟨d, hd, rfl⟩ := List.mem_map.mp hq
    obtain ⟨xs, rfl, hx⟩ := hall d hd
    refine ⟨[.tup xs], [.dat (.tup ds), .dat (.tup xs), .un, .un, .un, .un], rfl, ?_, rfl⟩
    exact op_run (lenN_seq (T := .tup xs) (ds := xs) rfl 1 rfl) rfl ne_b) rfl
  rw [List.map_map] at c2
  have an := any_map tl ds
  have at_ : ds.any tl = true := by
    rw [List.any_eq_true]
    refine ⟨.tup t, List.mem_of_getElem? hk, ?_⟩
    show ((t.length : Int) != 2) = true
    simp; omega
  rw [at_] at an
  have e : g_are_points (af (.tup ds)) = some (.rt (.bl false) (af (.tup ds))) := by
    unfold g_are_points
    refine (seq_nx (if_not L)).trans ?_
    exact seq_rt ((ifS_yes (mB_run (call_run (one_run (fz_run c2)) an))).trans (ret_run rfl))
  exact congrArg ansOf e
abbrev ff (ps : List Int) (c : Cur) (R : List D) (w : Int) (a : Nat) (e5 e6 : Ent) : List Ent := [.io (ps.map D.int), .dat c.pts, .own R, .dat (.int w), .dat (.int (a : Int)), e5, e6]
theorem item_ff {ps : List Int} {c : Cur} {w : Int} {a : Nat} {e5 e6 : Ent} {g : Mo D} {k : Nat} {q : Pt} (hk : c.ps[k]? = some q) (hg : g (ff ps c (c.ps.map ptD) w a e5 e6) = some (.ok (.int (k : Int)) (ff ps c (c.ps.map ptD) w a e5 e6))) : mItemN 2 g (ff ps c (c.ps.map ptD) w a e5 e6) = some (.ok (ptD q) (ff ps c (c.ps.map ptD) w a e5 e6)) :=
  itemN_run rfl hg rfl (atI_nn (by omega) (by rw [Int.toNat_natCast, List.getElem?_map, hk]; rfl))
theorem item_last {ps : List Int} {c : Cur} {w : Int} {a : Nat} {e5 e6 : Ent} : mItemN 2 (mUn gNeg (pur (.int 1))) (ff ps c (c.ps.map ptD) w a e5 e6) = some (.ok (ptD (lastP c.p c.r)) (ff ps c (c.ps.map ptD) w a e5 e6)) :=
  itemN_run (j := -1) rfl neg_run rfl (at_last c.p c.r)

theorem sl_run {g : D → Option Int → Option Int → Option D} {f : Mo D} {fl fh : Mo (Option Int)} {ε ε1 ε2 ε3 : List Ent} {d e : D} {lo hi : Option Int} (h1 : f ε = some (.ok d ε1)) (h2 : fl ε1 = some (.ok lo ε2)) (h3 : fh ε2 = some (.ok hi ε3)) (h : g d lo hi = some e) : mSl g f fl fh ε = some (.ok e ε3) := by
  unfold mSl bnd lft
  rw [h1]; dsimp only
  rw [h2]; dsimp only
  rw [h3]; dsimp only
  rw [h]
theorem chain_at : ∀ {p0 : Pt} {r0 : List Pt} (a : Nat) {p q : Pt}, Chain p0 r0 → (p0 :: r0)[a]? = some p → (p0 :: r0)[a + 1]? = some q → p.1 < q.1
  | p0, [], 0, p, q, _, _, h2 => by simp at h2
  | p0, q0 :: r, 0, p, q, h, h1, h2 => by
    simp at h1 h2
    subst h1 h2
    exact h.1
  | p0, [], a + 1, p, q, _, h1, _ => by simp at h1
  | p0, q0 :: r, a + 1, p, q, h, h1, h2 => chain_at a h.2 (by simpa using h1) (by simpa using h2)
theorem bad_pts {P : List Pt} (hl : P.length ≤ 999) (h : areB P = false) : m_are_points [.tup (P.map ptD)] = some (.ret (.bl false)) := by
  have := r_are_gen hl
  rw [h] at this
  exact this
theorem r_faulty (ps : List Int) (c : Cur) : ∃ (T : D) (qs : List Int), m_law_faulty (ps.map D.int) [c.pts] = some (.ret T, qs.map D.int) ∧ m_are_points [T] = some (.ret (.bl false)) := by
  have ne := c.G.ne
  have len := c.G.len
  have big := big20_big
  have r1 : 1 ≤ c.r.length := by
    cases h : c.r with
    | nil => exact absurd h ne
    | cons x y => simp
  have pl : c.ps.length = c.r.length + 1 := rfl
  obtain ⟨w, q1, t1, w0, w1⟩ := take_io ps (es := [.dat c.pts, .own (c.ps.map ptD), .un, .un, .un, .un]) (m := 9) (f := pur (.int 9)) (by decide) rfl
  have ln : ∀ {qs : List Int} {e3 e4 e5 e6 : Ent}, mLenN 2 [.io (qs.map D.int), .dat c.pts, .own (c.ps.map ptD), e3, e4, e5, e6] = some (.ok (.int ((c.r.length + 1 : Nat) : Int)) [.io (qs.map D.int), .dat c.pts, .own (c.ps.map ptD), e3, e4, e5, e6]) := fun {qs e3 e4 e5 e6} => by
    show some (Res.ok (D.int (((c.ps.map ptD).length : Nat) : Int)) _) = _
    rw [List.length_map]; rfl
  obtain ⟨v, q2, t2, v0, v1⟩ := take_io q1 (es := [.dat c.pts, .own (c.ps.map ptD), .dat (.int w), .un, .un, .un]) (m := (c.r.length : Int)) (f := mOp DL.gSub (mLenN 2) (pur (.int 1))) (by omega) (op_run ln rfl (sub_one _))
  obtain ⟨a, rfl⟩ := Int.eq_ofNat_of_zero_le v0
  have ha : a < c.r.length := by omega
  have s1 : mSetO 2 (mListO (mCons (mVar 1) (pur []))) [.io (ps.map D.int), .dat c.pts, .un, .un, .un, .un, .un] = some (.nx [.io (ps.map D.int), .dat c.pts, .own (c.ps.map ptD), .un, .un, .un, .un]) := rfl
  have s2 : mSet 3 (mFnQ 0 2 m_law_take (mCons (pur (.int 9)) (pur []))) [.io (ps.map D.int), .dat c.pts, .own (c.ps.map ptD), .un, .un, .un, .un] = some (.nx [.io (q1.map D.int), .dat c.pts, .own (c.ps.map ptD), .dat (.int w), .un, .un, .un]) := (set_run t1).trans rfl
  have s3 : mSet 4 (mFnQ 0 2 m_law_take (mCons (mOp DL.gSub (mLenN 2) (pur (.int 1))) (pur []))) [.io (q1.map D.int), .dat c.pts, .own (c.ps.map ptD), .dat (.int w), .un, .un, .un] = some (.nx (ff q2 c (c.ps.map ptD) w a .un .un)) := (set_run t2).trans rfl
  obtain ⟨p, hp⟩ : ∃ p, c.ps[a]? = some p := ⟨c.ps[a]'(by omega), List.getElem?_eq_getElem (by omega)⟩
  obtain ⟨q, hq⟩ : ∃ q, c.ps[a + 1]? = some q := ⟨c.ps[a + 1]'(by omega), List.getElem?_eq_getElem (by omega)⟩
  have hpq := chain_at a c.G.ch hp hq
  have h0 : c.ps[0]? = some c.p := rfl
  have go : ∀ {d : D} {qs : List Int} {es : List Ent}, g_law_faulty [.io (ps.map D.int), .dat c.pts, .un, .un, .un, .un, .un] = some (.rt d (.io (qs.map D.int) :: es)) → m_law_faulty (ps.map D.int) [c.pts] = some (.ret d, qs.map D.int) := fun e => runQ_go rfl e
  have fin : ∀ {qs : List Int} {R : List D} {e5 e6 : Ent}, (mRet (mCall (gOne gTuple) (mCons (mVar 2) (pur [])))) (ff qs c R w a e5 e6) = some (.rt (.tup R) (.io (qs.map D.int) :: [.dat c.pts, .dat (.lst R), .dat (.int w), .dat (.int (a : Int)), e5, e6])) := fun {_ _ _ _} => rfl
  have ls : ∀ {x : Pt} {k : Nat}, (c.ps.set k x).length ≤ 999 := fun {x k} => by rw [List.length_set]; omega
  have ms : ∀ {x : Pt} {k : Nat}, (c.ps.map ptD).set k (ptD x) = (c.ps.set k x).map ptD := fun {x k} => by rw [List.map_set]
  by_cases w0 : w = 0
  · obtain ⟨u, q3, t3, u0, u1⟩ := take_io q2 (es := [.dat c.pts, .dat (.lst (c.ps.map ptD)), .dat (.int w), .dat (.int (a : Int)), .un, .un]) (m := 2) (f := pur (.int 2)) (by decide) rfl
    have sl : mSl gSlL (mVar 2) (pur none) (bnd (mFnQ 0 2 m_law_take (mCons (pur (.int 2)) (pur []))) fun d => lft ((asI d).map some)) (ff q2 c (c.ps.map ptD) w a .un .un) = some (.ok (.lst (cutD (c.ps.map ptD) none (some u))) (.io (q3.map D.int) :: [.dat c.pts, .dat (.lst (c.ps.map ptD)), .dat (.int w), .dat (.int (a : Int)), .un, .un])) :=
      sl_run rfl rfl (it_run t3 rfl) rfl
    refine ⟨.tup (cutD (c.ps.map ptD) none (some u)), q3, go (es := [.dat c.pts, .dat (.lst (c.ps.map ptD)), .dat (.int w), .dat (.int (a : Int)), .un, .un]) ?_, ?_⟩
    · unfold g_law_faulty
      exact (seq_nx s1).trans ((seq_nx s2).trans ((seq_nx s3).trans (seq_rt ((tk' rfl w0).trans (ret_run (call_run (one_run sl) rfl))))))
    · have l2 : (cutD (c.ps.map ptD) none (some u)).length ≤ 1 := by
        unfold cutD
        refine Nat.le_trans (List.length_take_le _ _) ?_
        obtain ⟨n, rfl⟩ := Int.eq_ofNat_of_zero_le u0
        rw [HT.sIx_nat]
        omega
      refine r_are_short ?_ (by omega)
      unfold lenB
      rw [decide_eq_false (by omega : ¬ 2 ≤ _)]; rfl
  have n0 := w0
  by_cases w1 : w = 1
  · have c16 : bd_law_faulty_2 (ff q2 c (c.ps.map ptD) w a .un .un) = some (.ok ((List.range' 0 16).map fun (k : Nat) => D.tup [.int (16 * (k : Int)), .int c.p.2]) (ff q2 c (c.ps.map ptD) w a .un .un)) := by
      unfold bd_law_faulty_2
      have h1 : (bnd (mCons (pur (.int 16)) (pur [])) fun ds => lft (rng1 ds)) (ff q2 c (c.ps.map ptD) w a .un .un) = some (.ok (((List.range' 0 16).map fun (k : Nat) => (D.int (k : Int), D.tup [.int (16 * (k : Int)), .int c.p.2])).map Prod.fst) (ff q2 c (c.ps.map ptD) w a .un .un)) := by
        rw [List.map_map]
        exact it_run (g := rng1) (one_run rfl) (rg_len (n := 16) (by decide))
      have e := mlc_rel (vs := [6]) (t := gdName 6) (te := bd_law_faulty_1) (ε1 := ff q2 c (c.ps.map ptD) w a .un .un) (ε2 := ff q2 c (c.ps.map ptD) w a .un .un) ((List.range' 0 16).map fun (k : Nat) => (D.int (k : Int), D.tup [.int (16 * (k : Int)), .int c.p.2])) h1 (by simp) rfl (fun x hx => by
        obtain ⟨k, hk, rfl⟩ := List.mem_map.mp hx
        have hk2 := (List.mem_range'_1.mp hk).2
        have m := gmul_s (x := 16) (y := (k : Int)) (by omega) (by omega) (by omega) (by omega)
        refine ⟨[.int (k : Int)], ff q2 c (c.ps.map ptD) w a .un (.dat (.int (k : Int))), rfl, ?_, rfl⟩
        exact tup_run (two_run (op_run rfl rfl (by simp [gMul, gI, m])) (op_run (item_ff (k := 0) h0 rfl) rfl (pt1 c.p))) (by simp)) rfl
      rw [List.map_map] at e
      exact e
    refine ⟨.tup (((List.range' 0 16).map fun (k : Nat) => D.tup [.int (16 * (k : Int)), .int c.p.2]) ++ [.tup [.int 255, .int (lastP c.p c.r).2]]), q2, go (es := [.dat c.pts, .own (c.ps.map ptD), .dat (.int w), .dat (.int (a : Int)), .un, .un]) ?_, r_are_short (by simp; decide) (by simp)⟩
    unfold g_law_faulty
    exact (seq_nx s1).trans ((seq_nx s2).trans ((seq_nx s3).trans ((seq_nx (sk rfl n0)).trans (seq_rt ((tk' rfl w1).trans (ret_run (call_run (one_run (op_run (fz_run c16) (lst_run (one_run (tup_run (two_run rfl (op_run item_last rfl (pt1 _))) (by simp))) (by simp)) (cat_ok (by simp)))) rfl)))))))
  have n1 := w1
  by_cases w2 : w = 2
  · obtain ⟨e, q3, t3, he⟩ := pick_io q2 (es := [.dat c.pts, .own (c.ps.map ptD), .dat (.int w), .dat (.int (a : Int)), .un, .un]) (ds := [.int 1, .int (-1), .int big20]) (f := mTup (mCons (pur (.int 1)) (mCons (mUn gNeg (pur (.int 1))) (mCons (mOp gPow (pur (.int 10)) (pur (.int 20))) (pur []))))) (by decide) (tup_run (cons_run rfl (cons_run neg_run (one_run (by rw [pow20]; rfl)))) (by simp))
    obtain ⟨x, rfl, hx⟩ : ∃ x : Int, e = .int x ∧ x ≠ 0 := by
      simp at he
      rcases he with rfl | rfl | rfl
      · exact ⟨_, rfl, by first | decide | omega⟩
      · exact ⟨_, rfl, by first | decide | omega⟩
      · exact ⟨_, rfl, by first | decide | omega⟩
    refine ⟨.tup ((c.ps.map ptD).set 0 (ptD (x, c.p.2))), q3, go (es := [.dat c.pts, .dat (.lst ((c.ps.map ptD).set 0 (ptD (x, c.p.2)))), .dat (.int w), .dat (.int (a : Int)), .un, .un]) ?_, by rw [ms]; exact bad_pts ls (are_head (p := (x, c.p.2)) (r := c.r) hx)⟩
    unfold g_law_faulty
    exact (seq_nx s1).trans ((seq_nx s2).trans ((seq_nx s3).trans ((seq_nx (sk rfl n0)).trans ((seq_nx (sk rfl n1)).trans ((seq_nx ((tk' rfl w2).trans (put_at (k := 0) (ε2 := ff q3 c (c.ps.map ptD) w a .un .un) (R := c.ps.map ptD) (tup_run (two_run t3 (op_run (item_ff (k := 0) h0 rfl) rfl (pt1 c.p))) (by simp)) rfl rfl rfl (by rw [List.length_map]; omega)))).trans ((seq_nx (sk rfl (by omega))).trans ((seq_nx (sk rfl (by omega))).trans ((seq_nx (sk rfl (by omega))).trans ((seq_nx (sk rfl (by omega))).trans ((seq_nx (sk rfl (by omega))).trans ((seq_nx (sk rfl (by omega))).trans (fin))))))))))))
  have n2 := w2
  by_cases w3 : w = 3
  · obtain ⟨e, q3, t3, he⟩ := pick_io q2 (es := [.dat c.pts, .own (c.ps.map ptD), .dat (.int w), .dat (.int (a : Int)), .un, .un]) (ds := [.int 254, .int 256, .int big20]) (f := mTup (mCons (pur (.int 254)) (mCons (pur (.int 256)) (mCons (mOp gPow (pur (.int 10)) (pur (.int 20))) (pur []))))) (by decide) (tup_run (cons_run rfl (cons_run rfl (one_run (by rw [pow20]; rfl)))) (by simp))
    obtain ⟨x, rfl, hx⟩ : ∃ x : Int, e = .int x ∧ x ≠ 255 := by
      simp at he
      rcases he with rfl | rfl | rfl
      · exact ⟨_, rfl, by first | decide | omega⟩
      · exact ⟨_, rfl, by first | decide | omega⟩
      · exact ⟨_, rfl, by first | decide | omega⟩
    refine ⟨.tup ((c.ps.map ptD).set c.r.length (ptD (x, (lastP c.p c.r).2))), q3, go (es := [.dat c.pts, .dat (.lst ((c.ps.map ptD).set c.r.length (ptD (x, (lastP c.p c.r).2)))), .dat (.int w), .dat (.int (a : Int)), .un, .un]) ?_, by rw [ms]; exact bad_pts ls (are_last (q := (x, (lastP c.p c.r).2)) (by rw [List.getLast?_eq_getElem?, List.length_set, pl, Nat.add_sub_cancel, List.getElem?_set_self (by omega)]) hx)⟩
    unfold g_law_faulty
    exact (seq_nx s1).trans ((seq_nx s2).trans ((seq_nx s3).trans ((seq_nx (sk rfl n0)).trans ((seq_nx (sk rfl n1)).trans ((seq_nx (sk rfl n2)).trans ((seq_nx ((tk' rfl w3).trans (put_at (k := c.r.length) (ε2 := ff q3 c (c.ps.map ptD) w a .un .un) (R := c.ps.map ptD) (tup_run (two_run t3 (op_run item_last rfl (pt1 _))) (by simp)) rfl (op_run ln rfl (sub_one _)) rfl (by rw [List.length_map]; omega)))).trans ((seq_nx (sk rfl (by omega))).trans ((seq_nx (sk rfl (by omega))).trans ((seq_nx (sk rfl (by omega))).trans ((seq_nx (sk rfl (by omega))).trans ((seq_nx (sk rfl (by omega))).trans (fin))))))))))))
  have n3 := w3
  by_cases w4 : w = 4
  · obtain ⟨e, q3, t3, he⟩ := pick_io q2 (es := [.dat c.pts, .own (c.ps.map ptD), .dat (.int w), .dat (.int (a : Int)), .un, .un]) (ds := [.int 256, .int (-1), .int big20, .int (-big20)]) (f := mTup (mCons (pur (.int 256)) (mCons (mUn gNeg (pur (.int 1))) (mCons (mOp gPow (pur (.int 10)) (pur (.int 20))) (mCons (mUn gNeg (mOp gPow (pur (.int 10)) (pur (.int 20)))) (pur [])))))) (by decide) (tup_run (cons_run rfl (cons_run neg_run (cons_run (by rw [pow20]; rfl) (one_run (by rw [pow20]; exact neg_run))))) (by simp))
    obtain ⟨x, rfl, hx⟩ : ∃ x : Int, e = .int x ∧ ¬ (0 ≤ x ∧ x ≤ 255) := by
      simp at he
      rcases he with rfl | rfl | rfl | rfl
      · exact ⟨_, rfl, by first | decide | omega⟩
      · exact ⟨_, rfl, by first | decide | omega⟩
      · exact ⟨_, rfl, by first | decide | omega⟩
      · exact ⟨_, rfl, by first | decide | omega⟩
    refine ⟨.tup ((c.ps.map ptD).set a (ptD (p.1, x))), q3, go (es := [.dat c.pts, .dat (.lst ((c.ps.map ptD).set a (ptD (p.1, x)))), .dat (.int w), .dat (.int (a : Int)), .un, .un]) ?_, by rw [ms]; exact bad_pts ls (are_ys (q := (p.1, x)) (List.mem_of_getElem? (i := a) (List.getElem?_set_self (by omega))) hx)⟩
    unfold g_law_faulty
    exact (seq_nx s1).trans ((seq_nx s2).trans ((seq_nx s3).trans ((seq_nx (sk rfl n0)).trans ((seq_nx (sk rfl n1)).trans ((seq_nx (sk rfl n2)).trans ((seq_nx (sk rfl n3)).trans ((seq_nx ((tk' rfl w4).trans (put_at (k := a) (ε2 := ff q3 c (c.ps.map ptD) w a .un .un) (R := c.ps.map ptD) (tup_run (two_run (op_run (item_ff (k := a) hp rfl) rfl (pt0 p)) t3) (by simp)) rfl rfl rfl (by rw [List.length_map]; omega)))).trans ((seq_nx (sk rfl (by omega))).trans ((seq_nx (sk rfl (by omega))).trans ((seq_nx (sk rfl (by omega))).trans ((seq_nx (sk rfl (by omega))).trans (fin))))))))))))
  have n4 := w4
  by_cases w5 : w = 5
  · obtain ⟨e, q3, t3, he⟩ := pick_io q2 (es := [.dat c.pts, .own (c.ps.map ptD), .dat (.int w), .dat (.int (a : Int)), .un, .un]) (ds := [.int 256, .int (-1)]) (f := mTup (mCons (pur (.int 256)) (mCons (mUn gNeg (pur (.int 1))) (pur [])))) (by decide) (rfl)
    obtain ⟨x, rfl, hx⟩ : ∃ x : Int, e = .int x ∧ ¬ (0 ≤ x ∧ x ≤ 255) := by
      simp at he
      rcases he with rfl | rfl
      · exact ⟨_, rfl, by first | decide | omega⟩
      · exact ⟨_, rfl, by first | decide | omega⟩
    refine ⟨.tup ((c.ps.map ptD).set (a + 1) (ptD (q.1, x))), q3, go (es := [.dat c.pts, .dat (.lst ((c.ps.map ptD).set (a + 1) (ptD (q.1, x)))), .dat (.int w), .dat (.int (a : Int)), .un, .un]) ?_, by rw [ms]; exact bad_pts ls (are_ys (q := (q.1, x)) (List.mem_of_getElem? (i := a + 1) (List.getElem?_set_self (by omega))) hx)⟩
    unfold g_law_faulty
    exact (seq_nx s1).trans ((seq_nx s2).trans ((seq_nx s3).trans ((seq_nx (sk rfl n0)).trans ((seq_nx (sk rfl n1)).trans ((seq_nx (sk rfl n2)).trans ((seq_nx (sk rfl n3)).trans ((seq_nx (sk rfl n4)).trans ((seq_nx ((tk' rfl w5).trans (put_at (k := a + 1) (ε2 := ff q3 c (c.ps.map ptD) w a .un .un) (R := c.ps.map ptD) (tup_run (two_run (op_run (item_ff (k := a + 1) hq rfl) rfl (pt0 q)) t3) (by simp)) rfl rfl rfl (by rw [List.length_map]; omega)))).trans ((seq_nx (sk rfl (by omega))).trans ((seq_nx (sk rfl (by omega))).trans ((seq_nx (sk rfl (by omega))).trans (fin))))))))))))
  have n5 := w5
  by_cases w6 : w = 6
  · refine ⟨.tup ((c.ps.take a ++ [p] ++ c.ps.drop a).map ptD), q2, go (es := [.dat c.pts, .dat (.lst ((c.ps.take a ++ [p] ++ c.ps.drop a).map ptD)), .dat (.int w), .dat (.int (a : Int)), .un, .un]) ?_, bad_pts (by simp; omega) (are_two (i := a) (p := p) (q := p) (by
      rw [List.getElem?_append_left (by simp; omega), List.getElem?_append_right (by simp; omega)]
      simp [Nat.min_eq_left (by omega : a ≤ c.ps.length)]) (by
      rw [List.getElem?_append_right (by simp; omega)]
      simp only [List.length_append, List.length_take, List.length_singleton, List.getElem?_drop]
      rw [show a + (a + 1 - (min a c.ps.length + 1)) = a by omega]
      exact hp) (Int.le_refl _))⟩
    have ch : mIns 2 (mCons (mVar 4) (mCons (mItemN 2 (mVar 4)) (pur []))) (ff q2 c (c.ps.map ptD) w a .un .un) = some (.nx (ff q2 c ((c.ps.take a ++ [p] ++ c.ps.drop a).map ptD) w a .un .un)) := by
      refine (ins_at (k := a) (R := c.ps.map ptD) rfl (two_run rfl (item_ff (k := a) hp rfl)) rfl (by rw [List.length_map]; omega) (by omega)).trans ?_
      rw [List.map_append, List.map_append, List.map_take, List.map_drop]
      rfl
    unfold g_law_faulty
    exact (seq_nx s1).trans ((seq_nx s2).trans ((seq_nx s3).trans ((seq_nx (sk rfl n0)).trans ((seq_nx (sk rfl n1)).trans ((seq_nx (sk rfl n2)).trans ((seq_nx (sk rfl n3)).trans ((seq_nx (sk rfl n4)).trans ((seq_nx (sk rfl n5)).trans ((seq_nx ((tk' rfl w6).trans ch)).trans ((seq_nx (sk rfl (by omega))).trans ((seq_nx (sk rfl (by omega))).trans (fin))))))))))))
  have n6 := w6
  by_cases w7 : w = 7
  · refine ⟨.tup (((c.ps.set a q).set (a + 1) p).map ptD), q2, go (es := [.dat c.pts, .dat (.lst (((c.ps.set a q).set (a + 1) p).map ptD)), .dat (.int w), .dat (.int (a : Int)), .dat (ptD p), .un]) ?_, bad_pts (by rw [List.length_set]; exact ls) (are_two (i := a) (p := q) (q := p) (by rw [List.getElem?_set_ne (by omega), List.getElem?_set_self (by omega)]) (by rw [List.getElem?_set_self (by rw [List.length_set]; omega)]) (by omega))⟩
    have c1 : mSet 5 (mItemN 2 (mVar 4)) (ff q2 c (c.ps.map ptD) w a .un .un) = some (.nx (ff q2 c (c.ps.map ptD) w a (.dat (ptD p)) .un)) := (set_run (item_ff (k := a) hp rfl)).trans rfl
    have c2 : mPut 2 (mItemN 2 (mOp gAdd (mVar 4) (pur (.int 1)))) (mVar 4) (ff q2 c (c.ps.map ptD) w a (.dat (ptD p)) .un) = some (.nx (ff q2 c ((c.ps.set a q).map ptD) w a (.dat (ptD p)) .un)) := by
      refine (put_at (k := a) (R := c.ps.map ptD) (item_ff (k := a + 1) hq rfl) rfl rfl rfl (by rw [List.length_map]; omega)).trans ?_
      rw [ms]; rfl
    have c3 : mPut 2 (mVar 5) (mOp gAdd (mVar 4) (pur (.int 1))) (ff q2 c ((c.ps.set a q).map ptD) w a (.dat (ptD p)) .un) = some (.nx (ff q2 c (((c.ps.set a q).set (a + 1) p).map ptD) w a (.dat (ptD p)) .un)) := by
      refine (put_at (k := a + 1) (R := (c.ps.set a q).map ptD) (d := ptD p) rfl rfl rfl rfl (by rw [List.length_map, List.length_set]; omega)).trans ?_
      rw [← List.map_set]; rfl
    unfold g_law_faulty
    exact (seq_nx s1).trans ((seq_nx s2).trans ((seq_nx s3).trans ((seq_nx (sk rfl n0)).trans ((seq_nx (sk rfl n1)).trans ((seq_nx (sk rfl n2)).trans ((seq_nx (sk rfl n3)).trans ((seq_nx (sk rfl n4)).trans ((seq_nx (sk rfl n5)).trans ((seq_nx (sk rfl n6)).trans ((seq_nx ((tk' rfl w7).trans ((seq_nx c1).trans ((seq_nx c2).trans c3)))).trans ((seq_nx (sk rfl (by omega))).trans (fin))))))))))))
  have n7 := w7
  have w8 : w = 8 := by omega
  have x0 : (mOp gIx (mItemN 2 (mVar 4)) (pur (.int 0))) (ff q2 c (c.ps.map ptD) w a .un .un) = some (.ok (.int p.1) (ff q2 c (c.ps.map ptD) w a .un .un)) := op_run (item_ff (k := a) hp rfl) rfl (pt0 p)
  have x1 : (mOp gIx (mItemN 2 (mVar 4)) (pur (.int 1))) (ff q2 c (c.ps.map ptD) w a .un .un) = some (.ok (.int p.2) (ff q2 c (c.ps.map ptD) w a .un .un)) := op_run (item_ff (k := a) hp rfl) rfl (pt1 p)
  obtain ⟨e, q3, t3, he⟩ := pick_io q2 (es := [.dat c.pts, .own (c.ps.map ptD), .dat (.int w), .dat (.int (a : Int)), .un, .un]) (ds := [.tup [.int p.1], .tup [.int p.1, .int p.2, .int 0], .tup []]) (f := mTup (mCons (mTup (mCons (mOp gIx (mItemN 2 (mVar 4)) (pur (.int 0))) (pur []))) (mCons (mTup (mCons (mOp gIx (mItemN 2 (mVar 4)) (pur (.int 0))) (mCons (mOp gIx (mItemN 2 (mVar 4)) (pur (.int 1))) (mCons (pur (.int 0)) (pur []))))) (mCons (mTup (pur [])) (pur []))))) (by simp) (tup_run (cons_run (tup_run (one_run x0) (by simp)) (cons_run (tup_run (cons_run x0 (cons_run x1 (one_run rfl))) (by simp)) (one_run rfl))) (by simp))
  obtain ⟨t, rfl, ht, ht2⟩ : ∃ t : List D, e = .tup t ∧ t.length ≠ 2 ∧ t.length ≤ 1000 := by
    simp at he
    rcases he with rfl | rfl | rfl
    · exact ⟨_, rfl, by simp, by simp⟩
    · exact ⟨_, rfl, by simp, by simp⟩
    · exact ⟨_, rfl, by simp, by simp⟩
  refine ⟨.tup ((c.ps.map ptD).set a (.tup t)), q3, go (es := [.dat c.pts, .dat (.lst ((c.ps.map ptD).set a (.tup t))), .dat (.int w), .dat (.int (a : Int)), .un, .un]) ?_, r_are_odd (k := a) (t := t) (by simp; omega) (fun d hd => by
    rcases List.mem_or_eq_of_mem_set hd with hd | rfl
    · obtain ⟨z, _, rfl⟩ := List.mem_map.mp hd
      exact ⟨_, rfl, by simp⟩
    · exact ⟨t, rfl, ht2⟩) (List.getElem?_set_self (by rw [List.length_map]; omega)) ht⟩
  unfold g_law_faulty
  exact (seq_nx s1).trans ((seq_nx s2).trans ((seq_nx s3).trans ((seq_nx (sk rfl n0)).trans ((seq_nx (sk rfl n1)).trans ((seq_nx (sk rfl n2)).trans ((seq_nx (sk rfl n3)).trans ((seq_nx (sk rfl n4)).trans ((seq_nx (sk rfl n5)).trans ((seq_nx (sk rfl n6)).trans ((seq_nx (sk rfl n7)).trans ((seq_nx ((tk' rfl w8).trans (put_at (k := a) (ε2 := ff q3 c (c.ps.map ptD) w a .un .un) (R := c.ps.map ptD) t3 rfl rfl rfl (by rw [List.length_map]; omega)))).trans (fin))))))))))))

/-! lists of points that are made anew -/
def PW (l : List Pt) : Prop := l.Pairwise (fun a b => a.1 < b.1)
theorem pw_of : ∀ {p : Pt} {r : List Pt}, Chain p r → PW (p :: r)
  | p, [], _ => by simp [PW]
  | p, q :: r, h => List.pairwise_cons.mpr ⟨fun x hx => (xs_in h x hx).1, pw_of h.2⟩
theorem chain_of : ∀ {p : Pt} {r : List Pt}, PW (p :: r) → Chain p r
  | p, [], _ => trivial
  | p, q :: r, h => ⟨(List.pairwise_cons.mp h).1 q (List.mem_cons_self ..), chain_of (List.pairwise_cons.mp h).2⟩
theorem cur_of {l : List Pt} (h0 : l.head?.map Prod.fst = some 0) (hl : l.getLast?.map Prod.fst = some 255) (pw : PW l) (ys : ∀ q ∈ l, 0 ≤ q.2 ∧ q.2 ≤ 255) (len : l.length ≤ 16) : ∃ d : Cur, d.ps = l := by
  cases l with
  | nil => simp at h0
  | cons p r =>
    simp at h0
    have hx : lastX p r = 255 := by
      have := last_get p r
      cases hg : (p :: r).getLast? with
      | none => rw [hg] at hl; simp at hl
      | some z =>
        rw [hg] at this hl
        simp at hl this
        rw [← lastP_x, ← this, hl]
    refine ⟨⟨p, r, ⟨chain_of pw, ⟨ys p (List.mem_cons_self ..), fun q hq => ys q (List.mem_cons_of_mem _ hq)⟩, h0, hx, ?_, by simp at len; omega⟩⟩, rfl⟩
    intro hr
    subst hr
    simp [lastX] at hx
    omega
theorem cur_head (c : Cur) : c.ps.head?.map Prod.fst = some 0 := by
  simp [Cur.ps, c.G.x0]
theorem cur_last (c : Cur) : c.ps.getLast?.map Prod.fst = some 255 := by
  have h := last_get c.p c.r
  have x := lastP_x c.p c.r
  rw [c.G.xl] at x
  show ((c.p :: c.r).getLast?).map Prod.fst = _
  cases hg : (c.p :: c.r).getLast? with
  | none => simp at hg
  | some z =>
    rw [hg] at h
    simp at h
    rw [h]; simp [x]
theorem cur_ys (c : Cur) : ∀ q ∈ c.ps, 0 ≤ q.2 ∧ q.2 ≤ 255 := fun q hq => by
  rcases List.mem_cons.mp hq with rfl | hq
  · exact c.G.ys.1
  · exact c.G.ys.2 q hq
theorem cur_pw (c : Cur) : PW c.ps := pw_of c.G.ch
theorem cur_len (c : Cur) : c.ps.length ≤ 16 := by
  have := c.G.len
  show c.r.length + 1 ≤ 16
  omega
theorem split_at {l : List Pt} {k : Nat} {p q : Pt} (h1 : l[k]? = some p) (h2 : l[k + 1]? = some q) : l = l.take k ++ p :: q :: l.drop (k + 2) := by
  obtain ⟨a1, b1⟩ := List.getElem?_eq_some_iff.mp h1
  obtain ⟨a2, b2⟩ := List.getElem?_eq_some_iff.mp h2
  have e1 : l.drop k = p :: l.drop (k + 1) := by rw [← b1]; exact List.drop_eq_getElem_cons a1
  have e2 : l.drop (k + 1) = q :: l.drop (k + 2) := by rw [← b2]; exact List.drop_eq_getElem_cons a2
  rw [← e2, ← e1, List.take_append_drop]
theorem pw_ins {A B : List Pt} {p q m : Pt} (h : PW (A ++ p :: q :: B)) (h1 : p.1 < m.1) (h2 : m.1 < q.1) : PW (A ++ p :: m :: q :: B) := by
  unfold PW at *
  rw [List.pairwise_append] at *
  obtain ⟨a, b, c⟩ := h
  rw [List.pairwise_cons] at b
  obtain ⟨b1, b2⟩ := b
  have b3 := (List.pairwise_cons.mp b2).1
  refine ⟨a, ?_, fun x hx y hy => ?_⟩
  · refine List.pairwise_cons.mpr ⟨fun y hy => ?_, List.pairwise_cons.mpr ⟨fun y hy => ?_, b2⟩⟩
    · rcases List.mem_cons.mp hy with rfl | hy
      · exact h1
      · exact b1 y hy
    · rcases List.mem_cons.mp hy with rfl | hy
      · exact h2
      · have := b3 y hy; omega
  · rcases List.mem_cons.mp hy with rfl | hy
    · exact c x hx _ (List.mem_cons_self ..)
    · rcases List.mem_cons.mp hy with rfl | hy
      · have := c x hx p (List.mem_cons_self ..); omega
      · exact c x hx y (List.mem_cons_of_mem _ hy)
theorem pw_mov {A B : List Pt} {p q m : Pt} (h : PW (A ++ p :: q :: B)) (h1 : p.1 ≤ m.1) (h2 : m.1 < q.1) : PW (A ++ m :: q :: B) := by
  unfold PW at *
  rw [List.pairwise_append] at *
  obtain ⟨a, b, c⟩ := h
  rw [List.pairwise_cons] at b
  obtain ⟨b1, b2⟩ := b
  have b3 := (List.pairwise_cons.mp b2).1
  refine ⟨a, List.pairwise_cons.mpr ⟨fun y hy => ?_, b2⟩, fun x hx y hy => ?_⟩
  · rcases List.mem_cons.mp hy with rfl | hy
    · exact h2
    · have := b3 y hy; omega
  · rcases List.mem_cons.mp hy with rfl | hy
    · have := c x hx p (List.mem_cons_self ..); omega
    · exact c x hx y (List.mem_cons_of_mem _ hy)
theorem last_app {A B : List Pt} {q : Pt} : (A ++ q :: B).getLast? = (q :: B).getLast? := by
  rw [List.getLast?_append]
  cases h : (q :: B).getLast? with
  | none => simp at h
  | some z => rfl
/-- one more point -/
theorem cur_ins (c : Cur) {k : Nat} {p q m : Pt} (hl : c.ps.length ≤ 15) (h1 : c.ps[k]? = some p) (h2 : c.ps[k + 1]? = some q) (m1 : p.1 < m.1) (m2 : m.1 < q.1) (my : 0 ≤ m.2 ∧ m.2 ≤ 255) : ∃ d : Cur, d.ps = c.ps.take (k + 1) ++ [m] ++ c.ps.drop (k + 1) ∧ d.ps ≠ c.ps := by
  have s := split_at h1 h2
  obtain ⟨a1, b1⟩ := List.getElem?_eq_some_iff.mp h1
  obtain ⟨a2, b2⟩ := List.getElem?_eq_some_iff.mp h2
  have e : c.ps.take (k + 1) ++ [m] ++ c.ps.drop (k + 1) = c.ps.take k ++ p :: m :: q :: c.ps.drop (k + 2) := by
    rw [List.drop_eq_getElem_cons a2, b2, List.take_succ, h1]
    simp
  have pw := cur_pw c
  rw [s] at pw
  have hd := cur_head c
  have ls := cur_last c
  rw [e]
  obtain ⟨d, hd'⟩ := cur_of (l := c.ps.take k ++ p :: m :: q :: c.ps.drop (k + 2)) (by
    rw [s] at hd
    cases hA : c.ps.take k with
    | nil => rw [hA] at hd; simpa using hd
    | cons x y => rw [hA] at hd; simpa using hd) (by
    rw [s] at ls
    rw [show c.ps.take k ++ p :: m :: q :: c.ps.drop (k + 2) = (c.ps.take k ++ [p, m]) ++ q :: c.ps.drop (k + 2) by simp, last_app]
    rw [show c.ps.take k ++ p :: q :: c.ps.drop (k + 2) = (c.ps.take k ++ [p]) ++ q :: c.ps.drop (k + 2) by simp, last_app] at ls
    exact ls) (pw_ins pw m1 m2) (fun z hz => by
    have old : z ∈ c.ps ∨ z = m := by
      rw [s]
      simp at hz ⊢
      rcases hz with h | h | h | h | h
      · exact .inl (.inl h)
      · exact .inl (.inr (.inl h))
      · exact .inr h
      · exact .inl (.inr (.inr (.inl h)))
      · exact .inl (.inr (.inr (.inr h)))
    rcases old with h | rfl
    · exact cur_ys c z h
    · exact my) (by simp; omega)
  refine ⟨d, hd', fun h => ?_⟩
  have := congrArg List.length h
  rw [hd'] at this
  simp at this
  omega
/-- one point moved -/
theorem cur_mov (c : Cur) {k : Nat} {p q m : Pt} (hk : 1 ≤ k) (h1 : c.ps[k]? = some p) (h2 : c.ps[k + 1]? = some q) (m1 : p.1 < m.1) (m2 : m.1 < q.1) (my : 0 ≤ m.2 ∧ m.2 ≤ 255) : ∃ d : Cur, d.ps = c.ps.set k m ∧ d.ps ≠ c.ps := by
  have s := split_at h1 h2
  obtain ⟨a1, b1⟩ := List.getElem?_eq_some_iff.mp h1
  obtain ⟨a2, b2⟩ := List.getElem?_eq_some_iff.mp h2
  have tl : (c.ps.take k).length = k := by rw [List.length_take]; omega
  have e : c.ps.set k m = c.ps.take k ++ m :: q :: c.ps.drop (k + 2) := by
    rw [List.set_eq_take_append_cons_drop, if_pos a1, List.drop_eq_getElem_cons a2, b2]
  have pw := cur_pw c
  rw [s] at pw
  have hd := cur_head c
  have ls := cur_last c
  obtain ⟨d, hd'⟩ := cur_of (l := c.ps.take k ++ m :: q :: c.ps.drop (k + 2)) (by
    rw [s] at hd
    cases hA : c.ps.take k with
    | nil => rw [hA] at tl; simp at tl; omega
    | cons x y => rw [hA] at hd; simpa using hd) (by
    rw [s] at ls
    rw [show c.ps.take k ++ m :: q :: c.ps.drop (k + 2) = (c.ps.take k ++ [m]) ++ q :: c.ps.drop (k + 2) by simp, last_app]
    rw [show c.ps.take k ++ p :: q :: c.ps.drop (k + 2) = (c.ps.take k ++ [p]) ++ q :: c.ps.drop (k + 2) by simp, last_app] at ls
    exact ls) (pw_mov pw (by omega) m2) (fun z hz => by
    have old : z ∈ c.ps ∨ z = m := by
      rw [s]
      simp at hz ⊢
      rcases hz with h | h | h | h
      · exact .inl (.inl h)
      · exact .inr h
      · exact .inl (.inr (.inr (.inl h)))
      · exact .inl (.inr (.inr (.inr h)))
    rcases old with h | rfl
    · exact cur_ys c z h
    · exact my) (by have := cur_len c; simp; omega)
  refine ⟨d, by rw [hd', e], fun h => ?_⟩
  rw [hd', ← e] at h
  have := List.getElem?_set_self (l := c.ps) (a := m) a1
  rw [h, h1] at this
  injection this with this
  rw [this] at m1
  omega
/-- one height exchanged -/
theorem cur_y (c : Cur) {k : Nat} {p : Pt} {y : Int} (h1 : c.ps[k]? = some p) (hy : y ≠ p.2) (my : 0 ≤ y ∧ y ≤ 255) : ∃ d : Cur, d.ps = c.ps.set k (p.1, y) ∧ d.ps ≠ c.ps := by
  obtain ⟨a1, b1⟩ := List.getElem?_eq_some_iff.mp h1
  have fs : (c.ps.set k (p.1, y)).map Prod.fst = c.ps.map Prod.fst := by
    rw [List.map_set]
    refine List.ext_getElem? fun i => ?_
    by_cases hi : k = i
    · subst hi
      rw [List.getElem?_set_self (by rw [List.length_map]; exact a1), List.getElem?_map, h1]; rfl
    · rw [List.getElem?_set_ne hi]
  have hd := cur_head c
  have ls := cur_last c
  have pw : (c.ps.map Prod.fst).Pairwise (· < ·) := List.pairwise_map.mpr (cur_pw c)
  rw [← List.head?_map, ← fs, List.head?_map] at hd
  rw [← List.getLast?_map, ← fs, List.getLast?_map] at ls
  rw [← fs] at pw
  obtain ⟨d, hd'⟩ := cur_of hd ls (List.pairwise_map.mp pw) (fun z hz => by
    rcases List.mem_or_eq_of_mem_set hz with hz | rfl
    · exact cur_ys c z hz
    · exact my) (by rw [List.length_set]; exact cur_len c)
  refine ⟨d, hd', fun h => ?_⟩
  rw [hd'] at h
  have := List.getElem?_set_self (l := c.ps) (a := (p.1, y)) a1
  rw [h, h1] at this
  injection this with this
  rw [this] at hy
  exact hy rfl
/-- one point fewer -/
theorem cur_pop (c : Cur) (hl : c.ps.length = 16) : ∃ d : Cur, d.ps = c.ps.eraseIdx 1 ∧ d.ps ≠ c.ps := by
  have hd := cur_head c
  have ls := cur_last c
  have pw := cur_pw c
  have ys := cur_ys c
  match h : c.ps, hl with
  | p :: q :: z :: r, hl =>
    rw [h] at hd ls pw ys
    obtain ⟨d, hd'⟩ := cur_of (l := p :: z :: r) (by simpa using hd) (by
      rw [show p :: z :: r = [p] ++ z :: r from rfl, last_app]
      rw [show p :: q :: z :: r = [p, q] ++ z :: r from rfl, last_app] at ls
      exact ls) (by
      have := List.pairwise_cons.mp pw
      exact List.pairwise_cons.mpr ⟨fun x hx => this.1 x (List.mem_cons_of_mem _ hx), (List.pairwise_cons.mp this.2).2⟩) (fun x hx => ys x (by
      rcases List.mem_cons.mp hx with rfl | hx
      · exact List.mem_cons_self ..
      · exact List.mem_cons_of_mem _ (List.mem_cons_of_mem _ hx))) (by simp at hl ⊢; omega)
    refine ⟨d, hd', fun e => ?_⟩
    have := congrArg List.length e
    rw [hd'] at this
    simp at this
def gapB (c : Cur) (k : Nat) : Bool := decide (((c.ps[k]?).getD (0, 0)).1 + 1 < ((c.ps[k + 1]?).getD (0, 0)).1)
theorem gap_some : ∀ {p : Pt} {r : List Pt}, Chain p r → (∀ k, k < r.length → ¬ (((p :: r)[k]?).getD (0, 0)).1 + 1 < (((p :: r)[k + 1]?).getD (0, 0)).1) → lastX p r ≤ p.1 + (r.length : Int)
  | p, [], _, _ => by simp [lastX]
  | p, q :: r, h, hk => by
    have h0 := hk 0 (by simp)
    simp at h0
    have := gap_some (p := q) (r := r) h.2 (fun k hk2 => by
      have := hk (k + 1) (by simp; omega)
      simpa using this)
    show lastX q r ≤ _
    simp
    omega
theorem gap_ex (c : Cur) (hl : c.ps.length ≤ 15) : ∃ k, k < c.r.length ∧ gapB c k = true := by
  apply Classical.byContradiction
  intro h
  have := gap_some c.G.ch (fun k hk hg => h ⟨k, hk, by unfold gapB; exact decide_eq_true hg⟩)
  have x0 := c.G.x0
  have xl := c.G.xl
  have : c.ps.length = c.r.length + 1 := rfl
  omega

/-! likes -/
theorem lc_filt {vs : List Nat} {t : Tg} {tt : Mo Bool} {te : Mo D} {g : Nat → Bool} {ε : List Ent} : ∀ (ks : List Nat) (acc : List D), acc.length + ks.length ≤ 1000000 → (∀ k ∈ ks, ∃ ds ε1, t.parts (.int (k : Int)) = some ds ∧ tt (setL ε t.is ds) = some (.ok (g k) ε1) ∧ te ε1 = some (.ok (.int (k : Int)) ε1) ∧ wipeE ε1 vs = ε) → lcGo vs t tt te (ks.map fun (k : Nat) => D.int (k : Int)) acc ε = some (.ok (acc ++ (ks.filter g).map fun (k : Nat) => D.int (k : Int)) ε)
  | [], acc, _, _ => by simp [lcGo, pur]
  | k :: r, acc, hl, h => by
    rw [List.length_cons] at hl
    obtain ⟨ds, ε1, h1, h2, h3, h4⟩ := h k (List.mem_cons_self ..)
    show (match t.parts (.int (k : Int)) with | none => none | some ds => match tt (setL ε t.is ds) with | some (.ok true ε1) => (match te ε1 with | some (.ok y ε2) => if acc.length < 1000000 then lcGo vs t tt te (r.map fun (k : Nat) => D.int (k : Int)) (acc ++ [y]) (wipeE ε2 vs) else none | _ => none) | some (.ok false ε1) => lcGo vs t tt te (r.map fun (k : Nat) => D.int (k : Int)) acc (wipeE ε1 vs) | _ => none) = _
    rw [h1]
    dsimp only
    rw [h2]
    cases hg : g k with
    | true =>
      dsimp only
      rw [h3]
      dsimp only
      have ih := lc_filt (vs := vs) (t := t) (tt := tt) (te := te) (g := g) (ε := ε) r (acc ++ [D.int (k : Int)]) (by rw [List.length_append, List.length_singleton]; omega) fun x hx => h x (List.mem_cons_of_mem _ hx)
      rw [if_pos (by omega), h4, ih]
      simp [hg]
    | false =>
      dsimp only
      have ih := lc_filt (vs := vs) (t := t) (tt := tt) (te := te) (g := g) (ε := ε) r acc (by omega) fun x hx => h x (List.mem_cons_of_mem _ hx)
      rw [h4, ih]
      simp [hg]
theorem mlc_filt {vs : List Nat} {fi : Mo (List D)} {t : Tg} {tt : Mo Bool} {te : Mo D} {g : Nat → Bool} {ε ε' ε1 ε2 : List Ent} (ks : List Nat) (hf : fi ε = some (.ok (ks.map fun (k : Nat) => D.int (k : Int)) ε')) (hl : ks.length ≤ 1000000) (hw : wipeE ε' vs = ε1) (h : ∀ k ∈ ks, ∃ ds ε3, t.parts (.int (k : Int)) = some ds ∧ tt (setL ε1 t.is ds) = some (.ok (g k) ε3) ∧ te ε3 = some (.ok (.int (k : Int)) ε3) ∧ wipeE ε3 vs = ε1) (hb : backE ε' ε1 vs = ε2) : mLc vs fi t tt te ε = some (.ok ((ks.filter g).map fun (k : Nat) => D.int (k : Int)) ε2) := by
  have e := lc_filt (vs := vs) (t := t) (tt := tt) (te := te) (g := g) (ε := ε1) ks [] (by simpa using hl) h
  rw [List.nil_append] at e
  unfold mLc bnd
  rw [hf]
  dsimp only
  rw [hw, e]
  dsimp only
  rw [hb]
abbrev kf (ps : List Int) (c : Cur) (e3 e4 e5 e6 e7 e8 e9 : Ent) : List Ent := [.io (ps.map D.int), .dat c.ob, .dat c.pts, e3, e4, e5, e6, e7, e8, e9]
theorem eqC_t {f g : Mo D} {ε ε1 ε2 : List Ent} {c d : Cur} (h1 : f ε = some (.ok c.ob ε1)) (h2 : g ε1 = some (.ok d.ob ε2)) (h : c.ps = d.ps) : mEqO "Curve" m_Curve_eq f g ε = some (.ok (.bl true) ε2) := by
  have := eqC_run h1 h2
  rwa [decide_eq_true h] at this
theorem eqC_f {f g : Mo D} {ε ε1 ε2 : List Ent} {c d : Cur} (h1 : f ε = some (.ok c.ob ε1)) (h2 : g ε1 = some (.ok d.ob ε2)) (h : c.ps ≠ d.ps) : mEqO "Curve" m_Curve_eq f g ε = some (.ok (.bl false) ε2) := by
  have := eqC_run h1 h2
  rwa [decide_eq_false h] at this
theorem at_pts (c : Cur) {k : Nat} {p : Pt} (h : c.ps[k]? = some p) : gIx c.pts (.int (k : Int)) = some (ptD p) := atI_nn (by omega) (by rw [Int.toNat_natCast]; show (c.ps.map ptD)[k]? = _; rw [List.getElem?_map, h]; rfl)
theorem len2 {c : Cur} {ε : List Ent} (h : ε[2]? = some (.dat c.pts)) : mLenN 2 ε = some (.ok (.int ((c.r.length + 1 : Nat) : Int)) ε) := by
  have := lenN_seq (T := c.pts) (ds := (c.p :: c.r).map ptD) rfl 2 (ε := ε) h
  rw [List.length_map, List.length_cons] at this
  exact this
theorem k_test {ps : List Int} {c : Cur} {e3 e4 e5 e6 e7 e8 : Ent} {k : Nat} (hk : k < c.r.length) : (mB (mOp gLt (mOp gAdd (mOp gIx (mOp gIx (mVar 2) (mVar 9)) (pur (.int 0))) (pur (.int 1))) (mOp gIx (mOp gIx (mVar 2) (mOp gAdd (mVar 9) (pur (.int 1)))) (pur (.int 0))))) (kf ps c e3 e4 e5 e6 e7 e8 (.dat (.int (k : Int)))) = some (.ok (gapB c k) (kf ps c e3 e4 e5 e6 e7 e8 (.dat (.int (k : Int))))) := by
  have pl : c.ps.length = c.r.length + 1 := rfl
  obtain ⟨p, hp⟩ : ∃ p, c.ps[k]? = some p := ⟨c.ps[k]'(by omega), List.getElem?_eq_getElem (by omega)⟩
  obtain ⟨q, hq⟩ : ∃ q, c.ps[k + 1]? = some q := ⟨c.ps[k + 1]'(by omega), List.getElem?_eq_getElem (by omega)⟩
  have g1 := at_pts c hp
  have g2 := at_pts c hq
  have e : gapB c k = decide (p.1 + 1 < q.1) := by unfold gapB; rw [hp, hq]; rfl
  rw [e]
  exact mB_run (op_run (op_run (op_run (op_run rfl rfl g1) rfl (pt0 p)) rfl rfl) (op_run (op_run rfl (op_run rfl rfl rfl) g2) rfl (pt0 q)) lt_b)
theorem er_map : ∀ (l : List Pt) (n : Nat), (l.map ptD).eraseIdx n = (l.eraseIdx n).map ptD
  | [], _ => rfl
  | _ :: _, 0 => rfl
  | p :: r, n + 1 => by
    rw [List.map_cons, List.eraseIdx_cons_succ, List.eraseIdx_cons_succ, List.map_cons, er_map r n]
theorem k_gaps {ps : List Int} {c : Cur} {e3 e4 e5 : Ent} : bd_law_likes_2 (kf ps c e3 e4 e5 .un .un .un .un) = some (.ok (((List.range' 0 c.r.length).filter (gapB c)).map fun (k : Nat) => D.int (k : Int)) (kf ps c e3 e4 e5 .un .un .un .un)) := by
  have len := c.G.len
  unfold bd_law_likes_2
  exact mlc_filt (g := gapB c) (List.range' 0 c.r.length) (it_run (g := rng1) (one_run (op_run (len2 rfl) rfl (sub_one _))) (rg_len (by omega))) (by simp; omega) rfl (fun k hk => by
    have hk2 := (List.mem_range'_1.mp hk).2
    exact ⟨[.int (k : Int)], kf ps c e3 e4 e5 .un .un .un (.dat (.int (k : Int))), rfl, k_test (by omega), rfl, rfl⟩) rfl
theorem k_longer (ps : List Int) (c : Cur) (e3 e4 : Ent) : ∃ (d : Cur) (f6 : Ent), d.ps ≠ c.ps ∧ (mIfS (mB (mOp gEqS (mLenN 5) (pur (.int 16)))) (mDrop (mPopAt 5 (pur (.int 1)))) (mSeq (mSetO 6 bd_law_likes_2)
  (mIns 5 (mCons (mOp gAdd (mItemN 6 (pur (.int 0))) (pur (.int 1))) (mCons (mTup (mCons (mOp gAdd (mOp gIx (mOp gIx (mVar 2) (mItemN 6 (pur (.int 0)))) (pur (.int 0))) (pur (.int 1))) (mCons (mOp gIx (mOp gIx (mVar 2) (mItemN 6 (pur (.int 0)))) (pur (.int 1))) (pur [])))) (pur [])))))) (kf ps c e3 e4 (.own (c.ps.map ptD)) .un .un .un .un) = some (.nx (kf ps c e3 e4 (.own (d.ps.map ptD)) f6 .un .un .un)) := by
  have pl : c.ps.length = c.r.length + 1 := rfl
  have ln : mLenN 5 (kf ps c e3 e4 (.own (c.ps.map ptD)) .un .un .un .un) = some (.ok (.int (c.ps.length : Int)) (kf ps c e3 e4 (.own (c.ps.map ptD)) .un .un .un .un)) := by
    show some (Res.ok (D.int (((c.ps.map ptD).length : Nat) : Int)) _) = _
    rw [List.length_map]
  have cl := cur_len c
  by_cases h : c.ps.length = 16
  · obtain ⟨d, hd, hn⟩ := cur_pop c h
    refine ⟨d, .un, hn, (ifS_yes (mB_run (op_run ln rfl (eq_t (by omega))))).trans ?_⟩
    obtain ⟨p, hp⟩ : ∃ p, c.ps[1]? = some p := ⟨c.ps[1]'(by omega), List.getElem?_eq_getElem (by omega)⟩
    have hp' : (c.ps.map ptD)[1]? = some (ptD p) := by rw [List.getElem?_map, hp]; rfl
    have e : mPopAt 5 (pur (.int 1)) (kf ps c e3 e4 (.own (c.ps.map ptD)) .un .un .un .un) = some (.ok (ptD p) (kf ps c e3 e4 (.own ((c.ps.map ptD).eraseIdx 1)) .un .un .un .un)) := by
      have l2 : (c.ps.map ptD).length < 1000000 := by rw [List.length_map]; omega
      show (if (c.ps.map ptD).length < 1000000 ∧ (0 : Int) ≤ 1 then (match (c.ps.map ptD)[1]? with | some d => some (Res.ok d _) | none => none) else none) = _
      rw [if_pos ⟨l2, by decide⟩, hp']
      rfl
    rw [er_map, ← hd] at e
    unfold mDrop mThen
    rw [e]
  · obtain ⟨k0, hk0, hg0⟩ := gap_ex c (by omega)
    have hne : ∃ k ks, (List.range' 0 c.r.length).filter (gapB c) = k :: ks := by
      cases hf : (List.range' 0 c.r.length).filter (gapB c) with
      | nil =>
        have : k0 ∈ (List.range' 0 c.r.length).filter (gapB c) := List.mem_filter.mpr ⟨by simp [List.mem_range'_1]; omega, hg0⟩
        rw [hf] at this
        cases this
      | cons k ks => exact ⟨k, ks, rfl⟩
    obtain ⟨k, ks, hks⟩ := hne
    have km : k ∈ (List.range' 0 c.r.length).filter (gapB c) := by rw [hks]; exact List.mem_cons_self ..
    have kg := List.mem_filter.mp km
    have kl : k < c.r.length := by have := (List.mem_range'_1.mp kg.1).2; omega
    obtain ⟨p, hp⟩ : ∃ p, c.ps[k]? = some p := ⟨c.ps[k]'(by omega), List.getElem?_eq_getElem (by omega)⟩
    obtain ⟨q, hq⟩ : ∃ q, c.ps[k + 1]? = some q := ⟨c.ps[k + 1]'(by omega), List.getElem?_eq_getElem (by omega)⟩
    have hpq : p.1 + 1 < q.1 := by
      have := kg.2
      unfold gapB at this
      rw [hp, hq] at this
      exact of_decide_eq_true this
    obtain ⟨d, hd, hn⟩ := cur_ins c (m := (p.1 + 1, p.2)) (by omega) hp hq (by show p.1 < p.1 + 1; omega) hpq (cur_ys c p (List.mem_of_getElem? hp))
    have g := k_gaps (ps := ps) (c := c) (e3 := e3) (e4 := e4) (e5 := .own (c.ps.map ptD))
    rw [hks] at g
    refine ⟨d, .own ((k :: ks).map fun (k : Nat) => D.int (k : Int)), hn, (ifS_no (mB_run (op_run ln rfl (eq_f (by omega))))).trans ?_⟩
    refine (seq_nx ((setO_run g).trans (b := some (.nx (kf ps c e3 e4 (.own (c.ps.map ptD)) (.own ((k :: ks).map fun (k : Nat) => D.int (k : Int))) .un .un .un))) rfl)).trans ?_
    have i6 : mItemN 6 (pur (.int 0)) (kf ps c e3 e4 (.own (c.ps.map ptD)) (.own ((k :: ks).map fun (k : Nat) => D.int (k : Int))) .un .un .un) = some (.ok (.int (k : Int)) (kf ps c e3 e4 (.own (c.ps.map ptD)) (.own ((k :: ks).map fun (k : Nat) => D.int (k : Int))) .un .un .un)) := itemN_run (j := 0) rfl rfl rfl (atI_nat (j := 0) rfl)
    have g1 := at_pts c hp
    refine (ins_at (k := k + 1) (R := c.ps.map ptD) (d := ptD (p.1 + 1, p.2)) rfl (two_run (op_run i6 rfl rfl) (tup_run (two_run (op_run (op_run (op_run rfl i6 g1) rfl (pt0 p)) rfl rfl) (op_run (op_run rfl i6 g1) rfl (pt1 p))) (by simp))) rfl (by rw [List.length_map]; omega) (by omega)).trans ?_
    rw [hd, List.map_append, List.map_append, List.map_take, List.map_drop]
    rfl

theorem k_inner {ps : List Int} {c : Cur} {e3 e4 e5 e6 : Ent} : ∃ I : List Nat, (∀ k ∈ I, 1 ≤ k ∧ k < c.r.length ∧ gapB c k = true) ∧ bd_law_likes_4 (kf ps c e3 e4 e5 e6 .un .un .un) = some (.ok (I.map fun (k : Nat) => D.int (k : Int)) (kf ps c e3 e4 e5 e6 .un .un .un)) := by
  have len := c.G.len
  refine ⟨(((List.range (c.r.length - 1)).map fun j => 1 + j)).filter (gapB c), fun k hk => ?_, ?_⟩
  · have h := List.mem_filter.mp hk
    obtain ⟨j, hj, rfl⟩ := List.mem_map.mp h.1
    have := List.mem_range.mp hj
    exact ⟨by omega, by omega, h.2⟩
  · unfold bd_law_likes_4
    have rg : rng2 [.int 1, .int (c.r.length : Int)] = some (((List.range (c.r.length - 1)).map fun j => 1 + j).map fun (k : Nat) => D.int (k : Int)) := by
      rw [rng2_mk (by omega) (by omega) (by omega) (by omega), show ((c.r.length : Int) - 1).toNat = c.r.length - 1 by omega, List.map_map]
      unfold rangeD
      congr 1
    exact mlc_filt (g := gapB c) ((List.range (c.r.length - 1)).map fun j => 1 + j) (it_run (g := rng2) (two_run rfl (op_run (len2 rfl) rfl (sub_one _))) rg) (by simp; omega) rfl (fun k hk => by
      obtain ⟨j, hj, rfl⟩ := List.mem_map.mp hk
      have := List.mem_range.mp hj
      exact ⟨[.int ((1 + j : Nat) : Int)], kf ps c e3 e4 e5 e6 .un .un (.dat (.int ((1 + j : Nat) : Int))), rfl, k_test (by omega), rfl, rfl⟩) rfl
theorem k_moved (ps : List Int) (c : Cur) (e3 e4 e5 e6 : Ent) (I : List Nat) (hI : ∀ k ∈ I, 1 ≤ k ∧ k < c.r.length ∧ gapB c k = true) : ∃ (d : Cur) (f9 : Ent), (decide (c.ps = d.ps) = decide ((I.length : Int) = 0)) ∧ (mFor (bnd (mSl gSlL (mVar 7) (pur none) (bnd (pur (.int 1)) fun d => lft ((asI d).map some))) fun d => lft (lstOf d)) (gdName 9) bd_law_likes_5) (kf ps c e3 e4 e5 e6 (.own (I.map fun (k : Nat) => D.int (k : Int))) (.own (c.ps.map ptD)) .un) = some (.nx (kf ps c e3 e4 e5 e6 (.dat (.lst (I.map fun (k : Nat) => D.int (k : Int)))) (.own (d.ps.map ptD)) f9)) := by
  have pl : c.ps.length = c.r.length + 1 := rfl
  have cl := cur_len c
  have sl : ∀ J : List D, gSlL (.lst J) none (some 1) = some (.lst (J.take 1)) := fun J => by
    show some (D.lst (cutD J none (some 1))) = _
    unfold cutD
    have := HT.sIx_nat J.length J.length 1
    rw [show ((1 : Nat) : Int) = 1 from rfl] at this
    rw [HT.sIx_none, this, List.drop_zero, Nat.sub_zero]
    congr 2
    by_cases h : 1 ≤ J.length
    · rw [Nat.min_eq_left h]
    · have : J = [] := List.length_eq_zero_iff.mp (by omega)
      subst this; rfl
  have it : (bnd (mSl gSlL (mVar 7) (pur none) (bnd (pur (.int 1)) fun d => lft ((asI d).map some))) fun d => lft (lstOf d)) (kf ps c e3 e4 e5 e6 (.own (I.map fun (k : Nat) => D.int (k : Int))) (.own (c.ps.map ptD)) .un) = some (.ok ((I.map fun (k : Nat) => D.int (k : Int)).take 1) (kf ps c e3 e4 e5 e6 (.dat (.lst (I.map fun (k : Nat) => D.int (k : Int)))) (.own (c.ps.map ptD)) .un)) :=
    it_run (g := lstOf) (sl_run (ε2 := kf ps c e3 e4 e5 e6 (.dat (.lst (I.map fun (k : Nat) => D.int (k : Int)))) (.own (c.ps.map ptD)) .un) rfl rfl rfl (sl _)) rfl
  match I, hI, it with
  | [], _, it => exact ⟨c, .un, by simp, (for_run it).trans rfl⟩
  | k :: ks, hI, it =>
    obtain ⟨k1, kl, kg⟩ := hI k (List.mem_cons_self ..)
    obtain ⟨p, hp⟩ : ∃ p, c.ps[k]? = some p := ⟨c.ps[k]'(by omega), List.getElem?_eq_getElem (by omega)⟩
    obtain ⟨q, hq⟩ : ∃ q, c.ps[k + 1]? = some q := ⟨c.ps[k + 1]'(by omega), List.getElem?_eq_getElem (by omega)⟩
    have hpq : p.1 + 1 < q.1 := by
      unfold gapB at kg
      rw [hp, hq] at kg
      exact of_decide_eq_true kg
    obtain ⟨d, hd, hn⟩ := cur_mov c (m := (p.1 + 1, p.2)) k1 hp hq (by show p.1 < p.1 + 1; omega) hpq (cur_ys c p (List.mem_of_getElem? hp))
    have g1 := at_pts c hp
    refine ⟨d, .dat (.int (k : Int)), ?_, ?_⟩
    · rw [decide_eq_false (fun h => hn h.symm), decide_eq_false]
      rw [List.length_cons]; omega
    · have s : bd_law_likes_5 (kf ps c e3 e4 e5 e6 (.dat (.lst ((k :: ks).map fun (k : Nat) => D.int (k : Int)))) (.own (c.ps.map ptD)) (.dat (.int (k : Int)))) = some (.nx (kf ps c e3 e4 e5 e6 (.dat (.lst ((k :: ks).map fun (k : Nat) => D.int (k : Int)))) (.own (d.ps.map ptD)) (.dat (.int (k : Int))))) := by
        refine (put_at (k := k) (R := c.ps.map ptD) (d := ptD (p.1 + 1, p.2)) (tup_run (two_run (op_run (op_run (op_run rfl rfl g1) rfl (pt0 p)) rfl rfl) (op_run (op_run rfl rfl g1) rfl (pt1 p))) (by simp)) rfl rfl rfl (by rw [List.length_map]; omega)).trans ?_
        rw [← List.map_set, ← hd]
        rfl
      exact (for_run it).trans ((for_step (i := 9) s).trans rfl)
theorem r_likes (ps : List Int) (c : Cur) : ∃ qs : List Int, m_law_likes (ps.map D.int) [c.ob, c.pts] = some (.ret (.bl true), qs.map D.int) := by
  have pl : c.ps.length = c.r.length + 1 := rfl
  have cl := cur_len c
  obtain ⟨v, q1, t1, v0, v1⟩ := take_io ps (es := [.dat c.ob, .dat c.pts, .un, .un, .un, .un, .un, .un, .un]) (m := ((c.r.length + 1 : Nat) : Int)) (f := mLenN 2) (by omega) (len2 rfl)
  obtain ⟨a, rfl⟩ := Int.eq_ofNat_of_zero_le v0
  obtain ⟨p, hp⟩ : ∃ p, c.ps[a]? = some p := ⟨c.ps[a]'(by omega), List.getElem?_eq_getElem (by omega)⟩
  have yp := cur_ys c p (List.mem_of_getElem? hp)
  have g1 := at_pts c hp
  obtain ⟨t, q2, t2, u0, u1⟩ := take_io q1 (es := [.dat c.ob, .dat c.pts, .dat (.int (a : Int)), .own (c.ps.map ptD), .un, .un, .un, .un, .un]) (m := 255) (f := pur (.int 255)) (by decide) rfl
  obtain ⟨d, hd, hn⟩ := cur_y c (y := (p.2 + 1 + t) % 256) hp (by omega) (by omega)
  have s3 : mSet 3 (mFnQ 0 2 m_law_take (mCons (mLenN 2) (pur []))) (kf ps c .un .un .un .un .un .un .un) = some (.nx (kf q1 c (.dat (.int (a : Int))) .un .un .un .un .un .un)) := (set_run t1).trans rfl
  have s4 : mSetO 4 (mListO (mCons (mVar 2) (pur []))) (kf q1 c (.dat (.int (a : Int))) .un .un .un .un .un .un) = some (.nx (kf q1 c (.dat (.int (a : Int))) (.own (c.ps.map ptD)) .un .un .un .un .un)) := rfl
  have s5 : mPut 4 (mTup (mCons (mOp gIx (mOp gIx (mVar 2) (mVar 3)) (pur (.int 0))) (mCons (mOp gMod (mCall (gOne gInt) (mCons (mOp gAdd (mOp gAdd (mOp gIx (mOp gIx (mVar 2) (mVar 3)) (pur (.int 1))) (pur (.int 1))) (mFnQ 0 2 m_law_take (mCons (pur (.int 255)) (pur [])))) (pur []))) (pur (.int 256))) (pur [])))) (mVar 3) (kf q1 c (.dat (.int (a : Int))) (.own (c.ps.map ptD)) .un .un .un .un .un) = some (.nx (kf q2 c (.dat (.int (a : Int))) (.own (d.ps.map ptD)) .un .un .un .un .un)) := by
    refine (put_at (k := a) (ε2 := kf q2 c (.dat (.int (a : Int))) (.own (c.ps.map ptD)) .un .un .un .un .un) (R := c.ps.map ptD) (d := ptD (p.1, (p.2 + 1 + t) % 256)) (tup_run (two_run (op_run (op_run rfl rfl g1) rfl (pt0 p)) (op_run (call_run (one_run (op_run (op_run (op_run (op_run rfl rfl g1) rfl (pt1 p)) rfl rfl) t2 rfl)) rfl) rfl (by simp [gMod, gI]))) (by simp)) rfl rfl rfl (by rw [List.length_map]; omega)).trans ?_
    rw [← List.map_set, ← hd]
    rfl
  obtain ⟨d2, f6, n2, s9⟩ := k_longer q2 c (.dat (.int (a : Int))) (.dat (.lst (d.ps.map ptD)))
  obtain ⟨I, hI, s10⟩ := k_inner (ps := q2) (c := c) (e3 := .dat (.int (a : Int))) (e4 := .dat (.lst (d.ps.map ptD))) (e5 := .own (d2.ps.map ptD)) (e6 := f6)
  obtain ⟨d3, f9, n3, s12⟩ := k_moved q2 c (.dat (.int (a : Int))) (.dat (.lst (d.ps.map ptD))) (.own (d2.ps.map ptD)) f6 I hI
  have mk : ∀ {f : Mo D} {ε ε1 : List Ent} {x : Cur}, f ε = some (.ok (.lst (x.ps.map ptD)) ε1) → mMake "Curve" 2 m_Curve_init (mCons (mCall (gOne gTuple) (mCons f (pur []))) (pur [])) ε = some (.ok x.ob ε1) := fun {f ε ε1 x} h => make_crv x.G (call_run (one_run h) rfl)
  have s7 : mSetO 7 bd_law_likes_4 (kf q2 c (.dat (.int (a : Int))) (.dat (.lst (d.ps.map ptD))) (.own (d2.ps.map ptD)) f6 .un .un .un) = some (.nx (kf q2 c (.dat (.int (a : Int))) (.dat (.lst (d.ps.map ptD))) (.own (d2.ps.map ptD)) f6 (.own (I.map fun (k : Nat) => D.int (k : Int))) .un .un)) := (setO_run s10).trans rfl
  have lnI : mLenN 7 (kf q2 c (.dat (.int (a : Int))) (.dat (.lst (d.ps.map ptD))) (.own (d2.ps.map ptD)) f6 (.dat (.lst (I.map fun (k : Nat) => D.int (k : Int)))) (.dat (.lst (d3.ps.map ptD))) f9) = some (.ok (.int (I.length : Int)) (kf q2 c (.dat (.int (a : Int))) (.dat (.lst (d.ps.map ptD))) (.own (d2.ps.map ptD)) f6 (.dat (.lst (I.map fun (k : Nat) => D.int (k : Int)))) (.dat (.lst (d3.ps.map ptD))) f9)) := by
    show some (Res.ok (D.int (((I.map fun (k : Nat) => D.int (k : Int)).length : Nat) : Int)) _) = _
    rw [List.length_map]
  have eqb : gEqS (.int (I.length : Int)) (.int 0) = some (.bl (decide (c.ps = d3.ps))) := by
    rw [n3]; rfl
  refine ⟨q2, runQ_go (ε := kf ps c .un .un .un .un .un .un .un) rfl (es := [.dat c.ob, .dat c.pts, .dat (.int (a : Int)), .dat (.lst (d.ps.map ptD)), .dat (.lst (d2.ps.map ptD)), f6, .dat (.lst (I.map fun (k : Nat) => D.int (k : Int))), .dat (.lst (d3.ps.map ptD)), f9]) ?_⟩
  unfold g_law_likes
  refine (seq_nx s3).trans ((seq_nx s4).trans ((seq_nx s5).trans ?_))
  refine (seq_nx (ifS_no (or_ff (not_run (mB_run (fn_run (two_run (eqC_t (c := c) (d := c) rfl (make_crv c.G (call_run (one_run (call_run (one_run rfl) rfl)) rfl)) rfl) rfl) rfl (same_bl true)))) (not_run (mB_run (fn_run (two_run (eqT_run (c := c) (ds := c.ps.map ptD) rfl rfl) rfl) rfl (same_bl false))))))).trans ?_
  refine (seq_nx (ifS_no (or_ff (not_run (mB_run (fn_run (two_run (eqC_f (c := c) (d := d) (ε2 := kf q2 c (.dat (.int (a : Int))) (.dat (.lst (d.ps.map ptD))) .un .un .un .un .un) rfl (mk rfl) (fun h => hn h.symm)) rfl) rfl (same_bl false)))) (not_run (mB_run (fn_run (two_run (eqC_f (c := d) (d := c) (mk rfl) rfl hn) rfl) rfl (same_bl false))))))).trans ?_
  refine (seq_nx (ε' := kf q2 c (.dat (.int (a : Int))) (.dat (.lst (d.ps.map ptD))) (.own (c.ps.map ptD)) .un .un .un .un) rfl).trans ?_
  refine (seq_nx s9).trans ((seq_nx s7).trans ?_)
  refine (seq_nx (ε' := kf q2 c (.dat (.int (a : Int))) (.dat (.lst (d.ps.map ptD))) (.own (d2.ps.map ptD)) f6 (.own (I.map fun (k : Nat) => D.int (k : Int))) (.own (c.ps.map ptD)) .un) rfl).trans ?_
  refine (seq_nx s12).trans ?_
  refine (seq_nx (if_not (fn_run (two_run (eqC_run (c := c) (d := d3) (ε2 := kf q2 c (.dat (.int (a : Int))) (.dat (.lst (d.ps.map ptD))) (.own (d2.ps.map ptD)) f6 (.dat (.lst (I.map fun (k : Nat) => D.int (k : Int)))) (.dat (.lst (d3.ps.map ptD))) f9) rfl (mk rfl)) (op_run lnI rfl eqb)) rfl (same_bl _)))).trans ?_
  exact ret_run (fn_run (two_run (eqC_f (c := c) (d := d2) (ε2 := kf q2 c (.dat (.int (a : Int))) (.dat (.lst (d.ps.map ptD))) (.dat (.lst (d2.ps.map ptD))) f6 (.dat (.lst (I.map fun (k : Nat) => D.int (k : Int)))) (.dat (.lst (d3.ps.map ptD))) f9) rfl (mk rfl) (fun h => n2 h.symm)) rfl) rfl (same_bl false))

/-! the law -/
abbrev wf (S : D) (ps : List Int) (e2 e3 e4 e5 : Ent) : List Ent := [.dat S, .own (ps.map D.int), e2, e3, e4, e5]
theorem fnQ_1 {n : Nat} {m : List D → List D → Option (Ans × List D)} {fs : Mo (List D)} {x : Ent} {ps ds ps' : List D} {es : List Ent} {d : D} (h : fs (x :: .own ps :: es) = some (.ok ds (x :: .own ps :: es))) (hl : ds.length + 1 = n) (hm : m ps ds = some (.ret d, ps')) : mFnQ 1 n m fs (x :: .own ps :: es) = some (.ok d (x :: .own ps' :: es)) := by
  unfold mFnQ
  simp only [List.getElem?_cons_succ, List.getElem?_cons_zero, Option.bind_some, Ent.get, bnd, h, if_pos hl, hm, Ent.put, List.set_cons_succ, List.set_cons_zero]
theorem lt_ne (w : String) (hs : PyData.strOk (Str.ofString w) = true) {f g : Mo D} {ε ε1 : List Ent} {A : MoS} (h1 : f ε = some (.ok (refD w) ε1)) (h2 : g ε1 = some (.ok (.tup [.str (Str.ofString w), .bl true, .bl false]) ε1)) : mIfS (mB (mOp gNe f g)) A mNil ε = some (.nx ε1) := ifS_no (mB_run (op_run h1 h2 (ne_ref w hs)))
theorem before_last (p : Pt) (r : List Pt) (hr : r ≠ []) : ∃ q : Pt, q ∈ (p :: r) ∧ gIx (ptsD (p :: r)) (.int (-2)) = some (ptD q) ∧ ∃ pre z, p :: r = pre ++ [q, z] := by
  have : ∃ pre q z, p :: r = pre ++ [q, z] := by
    induction r generalizing p with
    | nil => exact absurd rfl hr
    | cons y t ih =>
      cases t with
      | nil => exact ⟨[], p, y, rfl⟩
      | cons w s =>
        obtain ⟨pre, q, z, e⟩ := ih y (by simp)
        exact ⟨p :: pre, q, z, by rw [e]; rfl⟩
  obtain ⟨pre, q, z, e⟩ := this
  refine ⟨q, by rw [e]; simp, ?_, pre, z, e⟩
  show atI ((p :: r).map ptD) (-2) = _
  rw [e, List.map_append]
  have l : (pre.map ptD ++ [q, z].map ptD).length = pre.length + 2 := by simp
  unfold atI ixN
  rw [l, if_neg (by decide), if_pos (by omega)]
  rw [show (-2 + ((pre.length + 2 : Nat) : Int)).toNat = pre.length by omega]
  simp
theorem law_run : ∀ ns : List Int, ns.length ≤ 63 → (∀ z ∈ ns, Builtin.Int.intBits z ≤ 1048576) → runP 6 g_law [.rdl (ns.map D.int)] = some (.ret (.bl true)) := fun ns _ _ => by
  obtain ⟨q0, e0, _, _⟩ := r_pool ns 3 40 (by decide) (by decide)
  have e0' : m_law_pool [.rdl (ns.map D.int), .int 3, .int 40] = some (q0.map D.int) := e0
  obtain ⟨c, q1, t1⟩ := r_points q0
  obtain ⟨b, w, lo, hi, q2, t2, hlev⟩ := r_levs q1
  obtain ⟨u, q3, t3, u0, u1⟩ := r_take q2 (m := 3) (by decide)
  have a3 : mFnQ 1 2 m_law_take (mCons (pur (.int 3)) (pur [])) (wf (.rdl (ns.map D.int)) q2 (.dat c.pts) (.dat (levT b w lo hi)) .un .un) = some (.ok (.int u) (wf (.rdl (ns.map D.int)) q3 (.dat c.pts) (.dat (levT b w lo hi)) .un .un)) := fnQ_1 (one_run rfl) rfl t3
  obtain ⟨n, q4, s4, n1, n2⟩ : ∃ (n : Int) (q4 : List Int), mSet 4 (mIf (mB (mOp gEqS (mFnQ 1 2 m_law_take (mCons (pur (.int 3)) (pur []))) (pur (.int 2)))) (mFnQ 1 2 m_law_pick (mCons (mTup (mCons (pur (.int 1)) (mCons (pur (.int 255)) (mCons (pur (.int 2)) (mCons (pur (.int 254)) (pur [])))))) (pur []))) (mOp gAdd (pur (.int 1)) (mFnQ 1 2 m_law_take (mCons (pur (.int 255)) (pur []))))) (wf (.rdl (ns.map D.int)) q2 (.dat c.pts) (.dat (levT b w lo hi)) .un .un) = some (.nx (wf (.rdl (ns.map D.int)) q4 (.dat c.pts) (.dat (levT b w lo hi)) (.dat (.int n)) .un)) ∧ 1 ≤ n ∧ n ≤ 255 := by
    by_cases h : u = 2
    · obtain ⟨j, q4, e, t4, hj, he⟩ := r_pick q3 (d := .tup [.int 1, .int 255, .int 2, .int 254]) rfl (by decide) (fun z h => nomatch h)
      have hm := List.mem_of_getElem? he
      obtain ⟨n, rfl, x, y⟩ : ∃ n : Int, e = .int n ∧ 1 ≤ n ∧ n ≤ 255 := by
        simp at hm
        rcases hm with rfl | rfl | rfl | rfl <;> exact ⟨_, rfl, by decide, by decide⟩
      have a4 : mFnQ 1 2 m_law_pick (mCons (mTup (mCons (pur (.int 1)) (mCons (pur (.int 255)) (mCons (pur (.int 2)) (mCons (pur (.int 254)) (pur [])))))) (pur [])) (wf (.rdl (ns.map D.int)) q3 (.dat c.pts) (.dat (levT b w lo hi)) .un .un) = some (.ok (.int n) (wf (.rdl (ns.map D.int)) q4 (.dat c.pts) (.dat (levT b w lo hi)) .un .un)) := fnQ_1 (one_run rfl) rfl t4
      exact ⟨n, q4, (set_run ((if_yes (mB_run (op_run a3 rfl (eq_t h)))).trans a4)).trans rfl, x, y⟩
    · obtain ⟨v, q4, t4, v0, v1⟩ := r_take q3 (m := 255) (by decide)
      have a4 : mFnQ 1 2 m_law_take (mCons (pur (.int 255)) (pur [])) (wf (.rdl (ns.map D.int)) q3 (.dat c.pts) (.dat (levT b w lo hi)) .un .un) = some (.ok (.int v) (wf (.rdl (ns.map D.int)) q4 (.dat c.pts) (.dat (levT b w lo hi)) .un .un)) := fnQ_1 (one_run rfl) rfl t4
      exact ⟨1 + v, q4, (set_run ((if_no (mB_run (op_run a3 rfl (eq_f h)))).trans (op_run rfl a4 rfl))).trans rfl, by omega, by omega⟩
  obtain ⟨q5, t5⟩ := r_likes q4 c
  obtain ⟨q6, t6⟩ := r_makers q5 (b := b) (w := w) (lo := lo) (hi := hi) hlev n1 n2
  obtain ⟨T, q7, t7, hT⟩ := r_faulty q6 c
  obtain ⟨b', w', lo', hi', q8, t8, hoff⟩ := r_off q7 (b := b) (w := w) (lo := lo) (hi := hi) hlev
  have big := big20_big
  obtain ⟨j, q9, e, t9, hj, he⟩ := r_pick q8 (d := .tup [.int 0, .int 256, .int (-1), .int big20, .int (-big20)]) rfl (by decide) (fun z h => nomatch h)
  have hm := List.mem_of_getElem? he
  obtain ⟨z, rfl, hz⟩ : ∃ z : Int, e = .int z ∧ (decide (1 ≤ z) && decide (z ≤ 255)) = false := by
    simp only [List.mem_cons, List.not_mem_nil, or_false] at hm
    rcases hm with rfl | rfl | rfl | rfl | rfl
    · exact ⟨_, rfl, by decide⟩
    · exact ⟨_, rfl, by decide⟩
    · exact ⟨_, rfl, by decide⟩
    · exact ⟨_, rfl, by simp; omega⟩
    · exact ⟨_, rfl, by simp; omega⟩
  obtain ⟨q, qm, gq, pre, zz, eq⟩ := before_last c.p c.r c.G.ne
  have yq := cur_ys c q qm
  have xq : 0 ≤ q.1 ∧ q.1 ≤ 255 := by
    have x0 := c.G.x0
    have xl := c.G.xl
    rcases List.mem_cons.mp qm with rfl | h
    · omega
    · have := xs_in c.G.ch q h; omega
  have cq : c.at q.1 = q.2 := by
    have hlt : q.1 < zz.1 := by
      have pw := cur_pw c
      have e' : c.ps = pre ++ [q, zz] := eq
      rw [e'] at pw
      exact (List.pairwise_cons.mp (List.pairwise_append.mp pw).2.1).1 zz (by simp)
    have := cv_seg pre c.G.ch eq (v := q.1) (Int.le_refl _) (by omega)
    show cv c.p c.r q.1 = _
    rw [this, seg_lo q zz hlt]
  have fin : ∃ ε, g_law (wf (.rdl (ns.map D.int)) [] .un .un .un .un |>.set 1 .un) = some (.rt (.bl true) ε) := by
    refine ⟨wf (.rdl (ns.map D.int)) q9 (.dat c.pts) (.dat (levT b w lo hi)) (.dat (.int n)) (.dat c.ob), ?_⟩
    have s1 : mSetO 1 (mFnO 3 m_law_pool (mCons (mVar 0) (mCons (pur (.int 3)) (mCons (pur (.int 40)) (pur []))))) [.dat (.rdl (ns.map D.int)), .un, .un, .un, .un, .un] = some (.nx (wf (.rdl (ns.map D.int)) q0 .un .un .un .un)) := by
      simp [e0', mSetO, mFnO, mThen, mCons, mVar, bnd, pur, lft]
    have s2 : mSet 2 (mFnQ 1 1 m_law_points (pur [])) (wf (.rdl (ns.map D.int)) q0 .un .un .un .un) = some (.nx (wf (.rdl (ns.map D.int)) q1 (.dat c.pts) .un .un .un)) := (set_run (fnQ_1 rfl rfl t1)).trans rfl
    have s3 : mSet 3 (mFnQ 1 1 m_law_levels (pur [])) (wf (.rdl (ns.map D.int)) q1 (.dat c.pts) .un .un .un) = some (.nx (wf (.rdl (ns.map D.int)) q2 (.dat c.pts) (.dat (levT b w lo hi)) .un .un)) := (set_run (fnQ_1 rfl rfl t2)).trans rfl
    have s5 : mSet 5 (mMake "Curve" 2 m_Curve_init (mCons (mVar 2) (pur []))) (wf (.rdl (ns.map D.int)) q4 (.dat c.pts) (.dat (levT b w lo hi)) (.dat (.int n)) .un) = some (.nx (wf (.rdl (ns.map D.int)) q4 (.dat c.pts) (.dat (levT b w lo hi)) (.dat (.int n)) (.dat c.ob))) := (set_run (make_crv c.G (ε1 := wf (.rdl (ns.map D.int)) q4 (.dat c.pts) (.dat (levT b w lo hi)) (.dat (.int n)) .un) rfl)).trans rfl
    have lk : mFnQ 1 3 m_law_likes (mCons (mVar 5) (mCons (mVar 2) (pur []))) (wf (.rdl (ns.map D.int)) q4 (.dat c.pts) (.dat (levT b w lo hi)) (.dat (.int n)) (.dat c.ob)) = some (.ok (.bl true) (wf (.rdl (ns.map D.int)) q5 (.dat c.pts) (.dat (levT b w lo hi)) (.dat (.int n)) (.dat c.ob))) := fnQ_1 (two_run rfl rfl) rfl t5
    have mk : mFnQ 1 3 m_law_makers (mCons (mVar 3) (mCons (mVar 4) (pur []))) (wf (.rdl (ns.map D.int)) q5 (.dat c.pts) (.dat (levT b w lo hi)) (.dat (.int n)) (.dat c.ob)) = some (.ok (.bl true) (wf (.rdl (ns.map D.int)) q6 (.dat c.pts) (.dat (levT b w lo hi)) (.dat (.int n)) (.dat c.ob))) := fnQ_1 (two_run rfl rfl) rfl t6
    have fa : mFnQ 1 2 m_law_faulty (mCons (mVar 2) (pur [])) (wf (.rdl (ns.map D.int)) q6 (.dat c.pts) (.dat (levT b w lo hi)) (.dat (.int n)) (.dat c.ob)) = some (.ok T (wf (.rdl (ns.map D.int)) q7 (.dat c.pts) (.dat (levT b w lo hi)) (.dat (.int n)) (.dat c.ob))) := fnQ_1 (one_run rfl) rfl t7
    have of_ : mFnQ 1 2 m_law_off (mCons (mVar 3) (pur [])) (wf (.rdl (ns.map D.int)) q7 (.dat c.pts) (.dat (levT b w lo hi)) (.dat (.int n)) (.dat c.ob)) = some (.ok (levT b' w' lo' hi') (wf (.rdl (ns.map D.int)) q8 (.dat c.pts) (.dat (levT b w lo hi)) (.dat (.int n)) (.dat c.ob))) := fnQ_1 (one_run rfl) rfl t8
    have pk : mFnQ 1 2 m_law_pick (mCons (mTup (mCons (pur (.int 0)) (mCons (pur (.int 256)) (mCons (mUn gNeg (pur (.int 1))) (mCons (mOp gPow (pur (.int 10)) (pur (.int 20))) (mCons (mUn gNeg (mOp gPow (pur (.int 10)) (pur (.int 20)))) (pur []))))))) (pur [])) (wf (.rdl (ns.map D.int)) q8 (.dat c.pts) (.dat (levT b w lo hi)) (.dat (.int n)) (.dat c.ob)) = some (.ok (.int z) (wf (.rdl (ns.map D.int)) q9 (.dat c.pts) (.dat (levT b w lo hi)) (.dat (.int n)) (.dat c.ob))) := fnQ_1 (one_run (tup_run (cons_run rfl (cons_run rfl (cons_run neg_run (cons_run (by rw [pow20]; rfl) (one_run (by rw [pow20]; exact neg_run)))))) (by simp))) rfl t9
    unfold g_law
    refine (seq_nx s1).trans ((seq_nx s2).trans ((seq_nx s3).trans ((seq_nx s4).trans ((seq_nx s5).trans ?_))))
    refine (seq_nx (ifS_no (or_ff (not_run (mB_run (is_run (c := c) rfl rfl))) (or_ff (not_run (mB_run (fn_run (two_run rfl rfl) rfl (r_line c)))) (not_run (mB_run (fn_run (two_run rfl rfl) rfl (r_rises c)))))))).trans ?_
    refine (seq_nx (ifS_no (or_ff (not_run (mB_run lk)) (not_run (mB_run mk))))).trans ?_
    refine (seq_nx (lt_ne "points" (by decide +kernel) (fn_run (two_run rfl fa) rfl (r_refP hT)) rfl)).trans ?_
    refine (seq_nx (lt_ne "levels" (by decide +kernel) (fn_run (two_run rfl of_) rfl (r_refL hoff)) rfl)).trans ?_
    refine (seq_nx (lt_ne "threshold" (by decide +kernel) (fn_run (two_run rfl pk) rfl (r_refT hz)) rfl)).trans ?_
    have cal : mCallO "Curve" 2 m_Curve_call (mVar 5) (mCons (mOp gIx (mOp gIx (mVar 2) (mUn gNeg (pur (.int 2)))) (pur (.int 0))) (pur [])) (wf (.rdl (ns.map D.int)) q9 (.dat c.pts) (.dat (levT b w lo hi)) (.dat (.int n)) (.dat c.ob)) = some (.ok (.int q.2) (wf (.rdl (ns.map D.int)) q9 (.dat c.pts) (.dat (levT b w lo hi)) (.dat (.int n)) (.dat c.ob))) := by
      rw [← cq]
      exact callO_run rfl (parts_crv c.p c.r) (one_run (op_run (op_run rfl (neg_run (i := 2)) gq) rfl (pt0 q))) rfl (r_call c.G xq.1 xq.2)
    exact ret_run (and_t (is_run (c := c) rfl rfl) (fn_run (two_run cal (op_run (op_run rfl (neg_run (i := 2)) gq) rfl (pt1 q))) rfl (same_int q.2)))
  obtain ⟨ε, e⟩ := fin
  exact congrArg ansOf e

theorem ok_law (T : Txt P w K mg) : FnOk P w K mg base (CXX P w) 7 T.f_law T.d_law ["script"] (SpLaw K) := by
  exact fn_law (g := g_law) T.F_law sc_law (fun cdv A outer s H E C hA hr tk => (ss_cons (st_setO (fun _ p => ps_set (i := 1) sc_law.nd rfl (by first | exact Or.inl rfl | exact Or.inr rfl) p) (cl_fnO (ok_law_pool T) tk (hr.mono (by decide)) (by rfl) T.m_law_pool T.F_law_pool.kp T.b_law_pool (ea_cons (ev_var 0 (pv 0)) (ea_cons ev_int (ea_cons ev_int ea_nil)))))
      (ss_cons (st_set (fun _ p => ps_set (i := 2) sc_law.nd rfl (by first | exact Or.inl rfl | exact Or.inr rfl) p) (cl_fnQ (ok_law_points T) tk (hr.mono (by decide)) (by rfl) T.m_law_points T.F_law_points.kp T.b_law_points (pv 1) ea_nil))
      (ss_cons (st_set (fun _ p => ps_set (i := 3) sc_law.nd rfl (by first | exact Or.inl rfl | exact Or.inr rfl) p) (cl_fnQ (ok_law_levels T) tk (hr.mono (by decide)) (by rfl) T.m_law_levels T.F_law_levels.kp T.b_law_levels (pv 1) ea_nil))
      (ss_cons (st_set (fun _ p => ps_set (i := 4) sc_law.nd rfl (by first | exact Or.inl rfl | exact Or.inr rfl) p) (ev_if (te_cmp op_eq (nomark _) vop_eqS (cl_fnQ (ok_law_take T) tk (hr.mono (by decide)) (by rfl) T.m_law_take T.F_law_take.kp T.b_law_take (pv 1) (ea_cons ev_int ea_nil)) ev_int) (cl_fnQ (ok_law_pick T) tk (hr.mono (by decide)) (by rfl) T.m_law_pick T.F_law_pick.kp T.b_law_pick (pv 1) (ea_cons (ev_tup (ea_cons ev_int (ea_cons ev_int (ea_cons ev_int (ea_cons ev_int ea_nil))))) ea_nil)) (ev_add ev_int (cl_fnQ (ok_law_take T) tk (hr.mono (by decide)) (by rfl) T.m_law_take T.F_law_take.kp T.b_law_take (pv 1) (ea_cons ev_int ea_nil)))))
      (ss_cons (st_set (fun _ p => ps_set (i := 5) sc_law.nd rfl (by first | exact Or.inl rfl | exact Or.inr rfl) p) (cl_make T.mk_Curve (ok_Curve_init T) tk (hr.mono (by decide)) (by rfl) T.gC_Curve T.nC_Curve T.b_Curve_init (ea_cons (ev_var 2 (pv 2)) ea_nil)))
      (ss_cons (st_if (te_w (tw_or (te_not (te_val (cl_fn (ok_law_is T) tk (hr.mono (by decide)) (by rfl) T.m_law_is T.F_law_is.kp T.b_law_is (ea_cons (ev_var 5 (pv 5)) (ea_cons (ev_var 2 (pv 2)) ea_nil))))) (tw_or (te_not (te_val (cl_fn (ok_law_line T) tk (hr.mono (by decide)) (by rfl) T.m_law_line T.F_law_line.kp T.b_law_line (ea_cons (ev_var 5 (pv 5)) (ea_cons (ev_var 2 (pv 2)) ea_nil))))) (tw_or1 (te_not (te_val (cl_fn (ok_law_rises T) tk (hr.mono (by decide)) (by rfl) T.m_law_rises T.F_law_rises.kp T.b_law_rises (ea_cons (ev_var 5 (pv 5)) (ea_cons (ev_var 2 (pv 2)) ea_nil))))))))) (ss_one (st_ret ev_bl)) ss_nil)
      (ss_cons (st_if (te_w (tw_or (te_not (te_val (cl_fnQ (ok_law_likes T) tk hr (by rfl) T.m_law_likes T.F_law_likes.kp T.b_law_likes (pv 1) (ea_cons (ev_var 5 (pv 5)) (ea_cons (ev_var 2 (pv 2)) ea_nil))))) (tw_or1 (te_not (te_val (cl_fnQ (ok_law_makers T) tk hr (by rfl) T.m_law_makers T.F_law_makers.kp T.b_law_makers (pv 1) (ea_cons (ev_var 3 (pv 3)) (ea_cons (ev_var 4 (pv 4)) ea_nil)))))))) (ss_one (st_ret ev_bl)) ss_nil)
      (ss_cons (st_if (te_cmp (op_neD (hu64 hr)) (nomark _) vop_neD (cl_fn (ok_law_refused T) tk hr (by rfl) T.m_law_refused T.F_law_refused.kp T.b_law_refused (ea_cons ev_str (ea_cons (cl_fnQ (ok_law_faulty T) tk (hr.mono (by decide)) (by rfl) T.m_law_faulty T.F_law_faulty.kp T.b_law_faulty (pv 1) (ea_cons (ev_var 2 (pv 2)) ea_nil)) ea_nil))) (ev_tup (ea_cons ev_str (ea_cons ev_bl (ea_cons ev_bl ea_nil))))) (ss_one (st_ret ev_bl)) ss_nil)
      (ss_cons (st_if (te_cmp (op_neD (hu64 hr)) (nomark _) vop_neD (cl_fn (ok_law_refused T) tk hr (by rfl) T.m_law_refused T.F_law_refused.kp T.b_law_refused (ea_cons ev_str (ea_cons (cl_fnQ (ok_law_off T) tk (hr.mono (by decide)) (by rfl) T.m_law_off T.F_law_off.kp T.b_law_off (pv 1) (ea_cons (ev_var 3 (pv 3)) ea_nil)) ea_nil))) (ev_tup (ea_cons ev_str (ea_cons ev_bl (ea_cons ev_bl ea_nil))))) (ss_one (st_ret ev_bl)) ss_nil)
      (ss_cons (st_if (te_cmp (op_neD (hu64 hr)) (nomark _) vop_neD (cl_fn (ok_law_refused T) tk hr (by rfl) T.m_law_refused T.F_law_refused.kp T.b_law_refused (ea_cons ev_str (ea_cons (cl_fnQ (ok_law_pick T) tk (hr.mono (by decide)) (by rfl) T.m_law_pick T.F_law_pick.kp T.b_law_pick (pv 1) (ea_cons (ev_tup (ea_cons ev_int (ea_cons ev_int (ea_cons (ev_neg ev_int) (ea_cons (ev_pow ev_int ev_int) (ea_cons (ev_neg (ev_pow ev_int ev_int)) ea_nil)))))) ea_nil)) ea_nil))) (ev_tup (ea_cons ev_str (ea_cons ev_bl (ea_cons ev_bl ea_nil))))) (ss_one (st_ret ev_bl)) ss_nil)
      (ss_one (st_ret (ev_and (cl_fn (ok_law_is T) tk (hr.mono (by decide)) (by rfl) T.m_law_is T.F_law_is.kp T.b_law_is (ea_cons (ev_var 5 (pv 5)) (ea_cons (ev_var 2 (pv 2)) ea_nil))) (ev_one (cl_fn (ok_law_same T) tk (hr.mono (by decide)) (by rfl) T.m_law_same T.F_law_same.kp T.b_law_same (ea_cons (ev_callO T.nC_Curve T.co_Curve (ok_Curve_call T) T.b_Curve_call tk (hr.mono (by decide)) (ev_var 5 (pv 5)) (ea_cons (ev_item (fun _ _ => rfl) (ev_item (fun _ _ => rfl) (ev_var 2 (pv 2)) (ev_neg ev_int)) ev_int) ea_nil)) (ea_cons (ev_item (fun _ _ => rfl) (ev_item (fun _ _ => rfl) (ev_var 2 (pv 2)) (ev_neg ev_int)) ev_int) ea_nil)))))))))))))))))) law_run
end
theorem all_mk {l : PySem.W.OpenLaw} {w : World} {K : PySem.W.Frag} {h : Heap} {mg : Str → Option Value} {fa : Addr} (X : K.In h) (G : h.Ns mainGlobals mg) (hfa : mg "law" = some (.ref fa))
    {f0 : Addr} {od0 an0 : Option Addr} {sl0 : Array (Option Value)} {oc0 kV0 dc0 pm0 cd0 ct0 : Value} (a0 : PySem.W.nsIn K mainGlobals "are_points" = some (some (.ref f0)))
    (l0 : K.lookup f0 = some ⟨oc0, od0, .func (PySem.W.fnOf "are_points" "are_points" (defArgs s_are_points) (defBody s_are_points) (defScope s_are_points) .none kV0 dc0 pm0 an0 cd0 ct0), sl0⟩) (c0 : PySem.W.codeIn K cd0 "are_points" = true)
    {f1 : Addr} {od1 an1 : Option Addr} {sl1 : Array (Option Value)} {oc1 kV1 dc1 pm1 cd1 ct1 : Value} (a1 : PySem.W.nsIn K mainGlobals "_heights" = some (some (.ref f1)))
    (l1 : K.lookup f1 = some ⟨oc1, od1, .func (PySem.W.fnOf "_heights" "_heights" (defArgs s_heights) (defBody s_heights) (defScope s_heights) .none kV1 dc1 pm1 an1 cd1 ct1), sl1⟩) (c1 : PySem.W.codeIn K cd1 "_heights" = true)
    {f2 : Addr} {od2 an2 : Option Addr} {sl2 : Array (Option Value)} {oc2 kV2 dc2 pm2 cd2 ct2 : Value} (a2 : PySem.W.nsIn K mainGlobals "_law_draws" = some (some (.ref f2)))
    (l2 : K.lookup f2 = some ⟨oc2, od2, .func (PySem.W.fnOf "_law_draws" "_law_draws" (defArgs s_law_draws) (defBody s_law_draws) (defScope s_law_draws) .none kV2 dc2 pm2 an2 cd2 ct2), sl2⟩) (c2 : PySem.W.codeIn K cd2 "_law_draws" = true)
    {f3 : Addr} {od3 an3 : Option Addr} {sl3 : Array (Option Value)} {oc3 kV3 dc3 pm3 cd3 ct3 : Value} (a3 : PySem.W.nsIn K mainGlobals "_law_take" = some (some (.ref f3)))
    (l3 : K.lookup f3 = some ⟨oc3, od3, .func (PySem.W.fnOf "_law_take" "_law_take" (defArgs s_law_take) (defBody s_law_take) (defScope s_law_take) .none kV3 dc3 pm3 an3 cd3 ct3), sl3⟩) (c3 : PySem.W.codeIn K cd3 "_law_take" = true)
    {f4 : Addr} {od4 an4 : Option Addr} {sl4 : Array (Option Value)} {oc4 kV4 dc4 pm4 cd4 ct4 : Value} (a4 : PySem.W.nsIn K mainGlobals "_law_whole" = some (some (.ref f4)))
    (l4 : K.lookup f4 = some ⟨oc4, od4, .func (PySem.W.fnOf "_law_whole" "_law_whole" (defArgs s_law_whole) (defBody s_law_whole) (defScope s_law_whole) .none kV4 dc4 pm4 an4 cd4 ct4), sl4⟩) (c4 : PySem.W.codeIn K cd4 "_law_whole" = true)
    {f6 : Addr} {od6 an6 : Option Addr} {sl6 : Array (Option Value)} {oc6 kV6 dc6 pm6 cd6 ct6 : Value} (a6 : PySem.W.nsIn K mainGlobals "_law_pool" = some (some (.ref f6)))
    (l6 : K.lookup f6 = some ⟨oc6, od6, .func (PySem.W.fnOf "_law_pool" "_law_pool" (defArgs s_law_pool) (defBody s_law_pool) (defScope s_law_pool) .none kV6 dc6 pm6 an6 cd6 ct6), sl6⟩) (c6 : PySem.W.codeIn K cd6 "_law_pool" = true)
    {f7 : Addr} {od7 an7 : Option Addr} {sl7 : Array (Option Value)} {oc7 kV7 dc7 pm7 cd7 ct7 : Value} (a7 : PySem.W.nsIn K mainGlobals "_law_pick" = some (some (.ref f7)))
    (l7 : K.lookup f7 = some ⟨oc7, od7, .func (PySem.W.fnOf "_law_pick" "_law_pick" (defArgs s_law_pick) (defBody s_law_pick) (defScope s_law_pick) .none kV7 dc7 pm7 an7 cd7 ct7), sl7⟩) (c7 : PySem.W.codeIn K cd7 "_law_pick" = true)
    {f8 : Addr} {od8 an8 : Option Addr} {sl8 : Array (Option Value)} {oc8 kV8 dc8 pm8 cd8 ct8 : Value} (a8 : PySem.W.nsIn K mainGlobals "_law_line" = some (some (.ref f8)))
    (l8 : K.lookup f8 = some ⟨oc8, od8, .func (PySem.W.fnOf "_law_line" "_law_line" (defArgs s_law_line) (defBody s_law_line) (defScope s_law_line) .none kV8 dc8 pm8 an8 cd8 ct8), sl8⟩) (c8 : PySem.W.codeIn K cd8 "_law_line" = true)
    {f9 : Addr} {od9 an9 : Option Addr} {sl9 : Array (Option Value)} {oc9 kV9 dc9 pm9 cd9 ct9 : Value} (a9 : PySem.W.nsIn K mainGlobals "_law_rises" = some (some (.ref f9)))
    (l9 : K.lookup f9 = some ⟨oc9, od9, .func (PySem.W.fnOf "_law_rises" "_law_rises" (defArgs s_law_rises) (defBody s_law_rises) (defScope s_law_rises) .none kV9 dc9 pm9 an9 cd9 ct9), sl9⟩) (c9 : PySem.W.codeIn K cd9 "_law_rises" = true)
    {f10 : Addr} {od10 an10 : Option Addr} {sl10 : Array (Option Value)} {oc10 kV10 dc10 pm10 cd10 ct10 : Value} (a10 : PySem.W.nsIn K mainGlobals "_law_value" = some (some (.ref f10)))
    (l10 : K.lookup f10 = some ⟨oc10, od10, .func (PySem.W.fnOf "_law_value" "_law_value" (defArgs s_law_value) (defBody s_law_value) (defScope s_law_value) .none kV10 dc10 pm10 an10 cd10 ct10), sl10⟩) (c10 : PySem.W.codeIn K cd10 "_law_value" = true)
    {f11 : Addr} {od11 an11 : Option Addr} {sl11 : Array (Option Value)} {oc11 kV11 dc11 pm11 cd11 ct11 : Value} (a11 : PySem.W.nsIn K mainGlobals "_law_faulty" = some (some (.ref f11)))
    (l11 : K.lookup f11 = some ⟨oc11, od11, .func (PySem.W.fnOf "_law_faulty" "_law_faulty" (defArgs s_law_faulty) (defBody s_law_faulty) (defScope s_law_faulty) .none kV11 dc11 pm11 an11 cd11 ct11), sl11⟩) (c11 : PySem.W.codeIn K cd11 "_law_faulty" = true)
    {f12 : Addr} {od12 an12 : Option Addr} {sl12 : Array (Option Value)} {oc12 kV12 dc12 pm12 cd12 ct12 : Value} (a12 : PySem.W.nsIn K mainGlobals "_law_off" = some (some (.ref f12)))
    (l12 : K.lookup f12 = some ⟨oc12, od12, .func (PySem.W.fnOf "_law_off" "_law_off" (defArgs s_law_off) (defBody s_law_off) (defScope s_law_off) .none kV12 dc12 pm12 an12 cd12 ct12), sl12⟩) (c12 : PySem.W.codeIn K cd12 "_law_off" = true)
    {f14 : Addr} {od14 an14 : Option Addr} {sl14 : Array (Option Value)} {oc14 kV14 dc14 pm14 cd14 ct14 : Value} (a14 : PySem.W.nsIn K mainGlobals "_law_same" = some (some (.ref f14)))
    (l14 : K.lookup f14 = some ⟨oc14, od14, .func (PySem.W.fnOf "_law_same" "_law_same" (defArgs s_law_same) (defBody s_law_same) (defScope s_law_same) .none kV14 dc14 pm14 an14 cd14 ct14), sl14⟩) (c14 : PySem.W.codeIn K cd14 "_law_same" = true)
    {f15 : Addr} {od15 an15 : Option Addr} {sl15 : Array (Option Value)} {oc15 kV15 dc15 pm15 cd15 ct15 : Value} (a15 : PySem.W.nsIn K mainGlobals "_law_points" = some (some (.ref f15)))
    (l15 : K.lookup f15 = some ⟨oc15, od15, .func (PySem.W.fnOf "_law_points" "_law_points" (defArgs s_law_points) (defBody s_law_points) (defScope s_law_points) .none kV15 dc15 pm15 an15 cd15 ct15), sl15⟩) (c15 : PySem.W.codeIn K cd15 "_law_points" = true)
    {f16 : Addr} {od16 an16 : Option Addr} {sl16 : Array (Option Value)} {oc16 kV16 dc16 pm16 cd16 ct16 : Value} (a16 : PySem.W.nsIn K mainGlobals "_law_levels" = some (some (.ref f16)))
    (l16 : K.lookup f16 = some ⟨oc16, od16, .func (PySem.W.fnOf "_law_levels" "_law_levels" (defArgs s_law_levels) (defBody s_law_levels) (defScope s_law_levels) .none kV16 dc16 pm16 an16 cd16 ct16), sl16⟩) (c16 : PySem.W.codeIn K cd16 "_law_levels" = true)
    {f17 : Addr} {od17 an17 : Option Addr} {sl17 : Array (Option Value)} {oc17 kV17 dc17 pm17 cd17 ct17 : Value} (a17 : PySem.W.nsIn K mainGlobals "_law_is" = some (some (.ref f17)))
    (l17 : K.lookup f17 = some ⟨oc17, od17, .func (PySem.W.fnOf "_law_is" "_law_is" (defArgs s_law_is) (defBody s_law_is) (defScope s_law_is) .none kV17 dc17 pm17 an17 cd17 ct17), sl17⟩) (c17 : PySem.W.codeIn K cd17 "_law_is" = true)
    {f23 : Addr} {od23 an23 : Option Addr} {sl23 : Array (Option Value)} {oc23 kV23 dc23 pm23 cd23 ct23 : Value} (a23 : PySem.W.nsIn K mainGlobals "_law_refused" = some (some (.ref f23)))
    (l23 : K.lookup f23 = some ⟨oc23, od23, .func (PySem.W.fnOf "_law_refused" "_law_refused" (defArgs s_law_refused) (defBody s_law_refused) (defScope s_law_refused) .none kV23 dc23 pm23 an23 cd23 ct23), sl23⟩) (c23 : PySem.W.codeIn K cd23 "_law_refused" = true)
    {f24 : Addr} {od24 an24 : Option Addr} {sl24 : Array (Option Value)} {oc24 kV24 dc24 pm24 cd24 ct24 : Value} (a24 : PySem.W.nsIn K mainGlobals "_law_likes" = some (some (.ref f24)))
    (l24 : K.lookup f24 = some ⟨oc24, od24, .func (PySem.W.fnOf "_law_likes" "_law_likes" (defArgs s_law_likes) (defBody s_law_likes) (defScope s_law_likes) .none kV24 dc24 pm24 an24 cd24 ct24), sl24⟩) (c24 : PySem.W.codeIn K cd24 "_law_likes" = true)
    {f25 : Addr} {od25 an25 : Option Addr} {sl25 : Array (Option Value)} {oc25 kV25 dc25 pm25 cd25 ct25 : Value} (a25 : PySem.W.nsIn K mainGlobals "_law_makers" = some (some (.ref f25)))
    (l25 : K.lookup f25 = some ⟨oc25, od25, .func (PySem.W.fnOf "_law_makers" "_law_makers" (defArgs s_law_makers) (defBody s_law_makers) (defScope s_law_makers) .none kV25 dc25 pm25 an25 cd25 ct25), sl25⟩) (c25 : PySem.W.codeIn K cd25 "_law_makers" = true)
    {f26 : Addr} {od26 an26 : Option Addr} {sl26 : Array (Option Value)} {oc26 kV26 dc26 pm26 cd26 ct26 : Value} (a26 : PySem.W.nsIn K mainGlobals "law" = some (some (.ref f26)))
    (l26 : K.lookup f26 = some ⟨oc26, od26, .func (PySem.W.fnOf "law" "law" (defArgs s_law) (defBody s_law) (defScope s_law) .none kV26 dc26 pm26 an26 cd26 ct26), sl26⟩) (c26 : PySem.W.codeIn K cd26 "law" = true)
    (z_ValueError : PySem.W.nsIn K mainGlobals "ValueError" = some none)
    (z_abs : PySem.W.nsIn K mainGlobals "abs" = some none)
    (z_all : PySem.W.nsIn K mainGlobals "all" = some none)
    (z_any : PySem.W.nsIn K mainGlobals "any" = some none)
    (z_bool : PySem.W.nsIn K mainGlobals "bool" = some none)
    (z_int : PySem.W.nsIn K mainGlobals "int" = some none)
    (z_isinstance : PySem.W.nsIn K mainGlobals "isinstance" = some none)
    (z_len : PySem.W.nsIn K mainGlobals "len" = some none)
    (z_list : PySem.W.nsIn K mainGlobals "list" = some none)
    (z_min : PySem.W.nsIn K mainGlobals "min" = some none)
    (z_range : PySem.W.nsIn K mainGlobals "range" = some none)
    (z_reversed : PySem.W.nsIn K mainGlobals "reversed" = some none)
    (z_sorted : PySem.W.nsIn K mainGlobals "sorted" = some none)
    (z_tuple : PySem.W.nsIn K mainGlobals "tuple" = some none)
    (z_zip : PySem.W.nsIn K mainGlobals "zip" = some none)
    {C_Curve : Addr} (nC_Curve : PySem.W.nsIn K mainGlobals "Curve" = some (some (.ref C_Curve)))
    {C_BadValue : Addr} (nC_BadValue : PySem.W.nsIn K mainGlobals "BadValue" = some (some (.ref C_BadValue)))
    {C_EaselError : Addr} (nC_EaselError : PySem.W.nsIn K mainGlobals "EaselError" = some (some (.ref C_EaselError)))
    {C_NoLayer : Addr} (nC_NoLayer : PySem.W.nsIn K mainGlobals "NoLayer" = some (some (.ref C_NoLayer)))
    {C_BadPlace : Addr} (nC_BadPlace : PySem.W.nsIn K mainGlobals "BadPlace" = some (some (.ref C_BadPlace)))
    {C_NoChange : Addr} (nC_NoChange : PySem.W.nsIn K mainGlobals "NoChange" = some (some (.ref C_NoChange)))
    {C_Taken : Addr} (nC_Taken : PySem.W.nsIn K mainGlobals "Taken" = some (some (.ref C_Taken)))
    {C_TooLarge : Addr} (nC_TooLarge : PySem.W.nsIn K mainGlobals "TooLarge" = some (some (.ref C_TooLarge)))
    {C_Singular : Addr} (nC_Singular : PySem.W.nsIn K mainGlobals "Singular" = some (some (.ref C_Singular)))
    {C_EndlessRegion : Addr} (nC_EndlessRegion : PySem.W.nsIn K mainGlobals "EndlessRegion" = some (some (.ref C_EndlessRegion)))
    {C_HistoryError : Addr} (nC_HistoryError : PySem.W.nsIn K mainGlobals "HistoryError" = some (some (.ref C_HistoryError)))
    {C_LineError : Addr} (nC_LineError : PySem.W.nsIn K mainGlobals "LineError" = some (some (.ref C_LineError)))
    {C_FileError : Addr} (nC_FileError : PySem.W.nsIn K mainGlobals "FileError" = some (some (.ref C_FileError)))
    {C_DeedError : Addr} (nC_DeedError : PySem.W.nsIn K mainGlobals "DeedError" = some (some (.ref C_DeedError)))
    {f5 : Addr} {od5 an5 : Option Addr} {sl5 : Array (Option Value)} {oc5 kV5 dc5 pm5 cd5 ct5 : Value} (a5 : PySem.W.findIn K (.ref C_Curve) "__call__" = some (some (.ref f5)))
    (l5 : K.lookup f5 = some ⟨oc5, od5, .func (PySem.W.fnOf "__call__" "Curve.__call__" (defArgs s_Curve_call) (defBody s_Curve_call) (defScope s_Curve_call) .none kV5 dc5 pm5 an5 cd5 ct5), sl5⟩) (c5 : PySem.W.codeIn K cd5 "Curve.__call__" = true)
    {f13 : Addr} {od13 an13 : Option Addr} {sl13 : Array (Option Value)} {oc13 kV13 dc13 pm13 cd13 ct13 : Value} (a13 : PySem.W.findIn K (.ref C_Curve) "__init__" = some (some (.ref f13)))
    (l13 : K.lookup f13 = some ⟨oc13, od13, .func (PySem.W.fnOf "__init__" "Curve.__init__" (defArgs s_Curve_init) (defBody s_Curve_init) (defScope s_Curve_init) .none kV13 dc13 pm13 an13 cd13 ct13), sl13⟩) (c13 : PySem.W.codeIn K cd13 "Curve.__init__" = true)
    {f18 : Addr} {od18 an18 : Option Addr} {sl18 : Array (Option Value)} {oc18 kV18 dc18 pm18 cd18 ct18 : Value} (a18 : PySem.W.findIn K (.ref C_Curve) "__eq__" = some (some (.ref f18)))
    (l18 : K.lookup f18 = some ⟨oc18, od18, .func (PySem.W.fnOf "__eq__" "Curve.__eq__" (defArgs s_Curve_eq) (defBody s_Curve_eq) (defScope s_Curve_eq) .none kV18 dc18 pm18 an18 cd18 ct18), sl18⟩) (c18 : PySem.W.codeIn K cd18 "Curve.__eq__" = true)
    {f19 : Addr} {od19 an19 : Option Addr} {sl19 : Array (Option Value)} {oc19 kV19 dc19 pm19 cd19 ct19 : Value} {p_Curve_identity : Addr} {rs19 : List Value} (a19 : PySem.W.recIn K p_Curve_identity "staticmethod" = some (.ref f19 :: rs19))
    (l19 : K.lookup f19 = some ⟨oc19, od19, .func (PySem.W.fnOf "identity" "Curve.identity" (defArgs s_Curve_identity) (defBody s_Curve_identity) (defScope s_Curve_identity) .none kV19 dc19 pm19 an19 cd19 ct19), sl19⟩) (c19 : PySem.W.codeIn K cd19 "Curve.identity" = true)
    {f20 : Addr} {od20 an20 : Option Addr} {sl20 : Array (Option Value)} {oc20 kV20 dc20 pm20 cd20 ct20 : Value} {p_Curve_inverted : Addr} {rs20 : List Value} (a20 : PySem.W.recIn K p_Curve_inverted "staticmethod" = some (.ref f20 :: rs20))
    (l20 : K.lookup f20 = some ⟨oc20, od20, .func (PySem.W.fnOf "inverted" "Curve.inverted" (defArgs s_Curve_inverted) (defBody s_Curve_inverted) (defScope s_Curve_inverted) .none kV20 dc20 pm20 an20 cd20 ct20), sl20⟩) (c20 : PySem.W.codeIn K cd20 "Curve.inverted" = true)
    {f21 : Addr} {od21 an21 : Option Addr} {sl21 : Array (Option Value)} {oc21 kV21 dc21 pm21 cd21 ct21 : Value} {p_Curve_levels : Addr} {rs21 : List Value} (a21 : PySem.W.recIn K p_Curve_levels "staticmethod" = some (.ref f21 :: rs21))
    (l21 : K.lookup f21 = some ⟨oc21, od21, .func (PySem.W.fnOf "levels" "Curve.levels" (defArgs s_Curve_levels) (defBody s_Curve_levels) (defScope s_Curve_levels) .none kV21 dc21 pm21 an21 cd21 ct21), sl21⟩) (c21 : PySem.W.codeIn K cd21 "Curve.levels" = true)
    {f22 : Addr} {od22 an22 : Option Addr} {sl22 : Array (Option Value)} {oc22 kV22 dc22 pm22 cd22 ct22 : Value} {p_Curve_threshold : Addr} {rs22 : List Value} (a22 : PySem.W.recIn K p_Curve_threshold "staticmethod" = some (.ref f22 :: rs22))
    (l22 : K.lookup f22 = some ⟨oc22, od22, .func (PySem.W.fnOf "threshold" "Curve.threshold" (defArgs s_Curve_threshold) (defBody s_Curve_threshold) (defScope s_Curve_threshold) .none kV22 dc22 pm22 an22 cd22 ct22), sl22⟩) (c22 : PySem.W.codeIn K cd22 "Curve.threshold" = true)
     (cpg_Curve : PySem.W.plainGet K C_Curve Str.empty = true) (chd_Curve : PySem.W.hasDictIn K C_Curve = true) (cpo_Curve : PySem.W.plainOver K C_Curve = true) (csa_Curve : PySem.W.findIn K (.ref C_Curve) "__setattr__" = some (some (.builtin "object.__setattr__")))
     (cna_Curve_heights : PySem.W.findIn K (.ref C_Curve) "_heights" = some none)
     (ofn_Curve : PySem.W.isFn K (.ref f5) = true) (ofi_Curve : PySem.W.fnIn K f5 = true)
    {nm_BadValue q_BadValue : Str} {N_BadValue I_BadValue : Addr} {bs_BadValue bm_BadValue sub_BadValue : List Value} {sn_BadValue : List Str} {ab_BadValue : Bool} {col_BadValue : Option Bool} {dd_BadValue odI_BadValue anI_BadValue : Option Addr} {m0_BadValue m1_BadValue m2_BadValue m3_BadValue m5_BadValue : Option Value} {slI_BadValue : Array (Option Value)} {ocI_BadValue kVI_BadValue dcI_BadValue pmI_BadValue cdI_BadValue ctI_BadValue : Value} (xL_BadValue : K.lookup C_BadValue = some (excClassObj nm_BadValue q_BadValue C_BadValue N_BadValue bs_BadValue bm_BadValue true sn_BadValue sub_BadValue ab_BadValue col_BadValue dd_BadValue m0_BadValue m1_BadValue m2_BadValue m3_BadValue m5_BadValue "ValueError.__new__")) (rv_BadValue : HandSPX.refsVE bm_BadValue = true) (sa_BadValue : PySem.W.findIn K (.ref C_BadValue) "__setattr__" = some (some (.builtin "object.__setattr__"))) (eC_BadValue : PySem.W.subIn K (.ref C_BadValue) (.type "BaseException") = some true) (tC_BadValue : PySem.W.typeIn K (.ref C_BadValue) = some (.type "type")) (kC_BadValue : PySem.W.keepIn K (.ref C_BadValue) = true) (iI_BadValue : PySem.W.findIn K (.ref C_BadValue) "__init__" = some (some (.ref I_BadValue))) (tI_BadValue : PySem.W.typeIn K (.ref I_BadValue) = some (.type "function")) (lI_BadValue : K.lookup I_BadValue = some ⟨ocI_BadValue, odI_BadValue, .func (PySem.W.fnOf "__init__" "BadValue.__init__" (defArgs initS_BadValue) (defBody initS_BadValue) (defScope initS_BadValue) .none kVI_BadValue dcI_BadValue pmI_BadValue anI_BadValue cdI_BadValue ctI_BadValue), slI_BadValue⟩) (cI_BadValue : PySem.W.codeIn K cdI_BadValue "BadValue.__init__" = true) (no_BadValue : PySem.W.findIn K (.ref C_BadValue) "field" = some none)
     (cna_Curve_points : PySem.W.findIn K (.ref C_Curve) "points" = some none)
     (sha_Curve : PySem.W.findIn K (.ref C_Curve) "__class__" = some (some (.builtin "object.__class__"))) (shn_Curve : PySem.W.specialIn K (.builtin "object.__class__") "__get__" = some (some (.builtin "getset_descriptor.__get__"))) (sht_Curve : PySem.W.takesIn K (.builtin "object.__class__") = some true) (shm_Curve : PySem.W.mroIn K C_Curve (.type "object") = some true) (skNoneType_Curve : PySem.W.kitOne K (.type "NoneType") (.ref C_Curve) = some false) (skbool_Curve : PySem.W.kitOne K (.type "bool") (.ref C_Curve) = some false) (skint_Curve : PySem.W.kitOne K (.type "int") (.ref C_Curve) = some false) (skstr_Curve : PySem.W.kitOne K (.type "str") (.ref C_Curve) = some false) (sktuple_Curve : PySem.W.kitOne K (.type "tuple") (.ref C_Curve) = some false) (sklist_Curve : PySem.W.kitOne K (.type "list") (.ref C_Curve) = some false) (skdict_Curve : PySem.W.kitOne K (.type "dict") (.ref C_Curve) = some false) (ssNoneType_Curve : PySem.W.subIn K (.type "NoneType") (.ref C_Curve) = some false) (ssbool_Curve : PySem.W.subIn K (.type "bool") (.ref C_Curve) = some false) (ssint_Curve : PySem.W.subIn K (.type "int") (.ref C_Curve) = some false) (ssstr_Curve : PySem.W.subIn K (.type "str") (.ref C_Curve) = some false) (sstuple_Curve : PySem.W.subIn K (.type "tuple") (.ref C_Curve) = some false) (sslist_Curve : PySem.W.subIn K (.type "list") (.ref C_Curve) = some false) (ssdict_Curve : PySem.W.subIn K (.type "dict") (.ref C_Curve) = some false)
     (kmk_Curve : PySem.W.makesIn K C_Curve = true) (kfn_Curve : PySem.W.isFn K (.ref f13) = true) (kkp_Curve : PySem.W.keepIn K (.ref C_Curve) = true)
     (em_BadValue_EaselError : PySem.W.exmOne K (.ref C_BadValue) (.ref C_EaselError) = some true)
     (srd_Curve_levels : PySem.W.readsIn K C_Curve (.type "type") = true) (sga_Curve_levels : PySem.W.specialIn K (.ref C_Curve) "__getattribute__" = some (some (.builtin "type.__getattribute__"))) (sat_Curve_levels : PySem.W.findCls K (.ref C_Curve) (.type "type") "levels" = some (.get (.builtin "staticmethod.__get__") (.ref p_Curve_levels) .none (.ref C_Curve)))
     (srd_Curve_threshold : PySem.W.readsIn K C_Curve (.type "type") = true) (sga_Curve_threshold : PySem.W.specialIn K (.ref C_Curve) "__getattribute__" = some (some (.builtin "type.__getattribute__"))) (sat_Curve_threshold : PySem.W.findCls K (.ref C_Curve) (.type "type") "threshold" = some (.get (.builtin "staticmethod.__get__") (.ref p_Curve_threshold) .none (.ref C_Curve)))
     (Xhg_BadValue : PySem.W.findIn K (.ref C_BadValue) "__getattribute__" = some (some (.builtin "BaseException.__getattribute__"))) (Xhk_BadValue : PySem.W.findIn K (.ref C_BadValue) "__getattr__" = some none) (Xhs_BadValue : PySem.W.subIn K (.ref C_BadValue) (.type "BaseException") = some true) (Xhd_BadValue : PySem.W.hasDictIn K C_BadValue = true) (Xha_BadValue : PySem.W.findIn K (.ref C_BadValue) "__class__" = some (some (.builtin "object.__class__"))) (Xhn_BadValue : PySem.W.specialIn K (.builtin "object.__class__") "__get__" = some (some (.builtin "getset_descriptor.__get__"))) (Xht_BadValue : PySem.W.takesIn K (.builtin "object.__class__") = some true) (Xhm_BadValue : PySem.W.mroIn K C_BadValue (.type "object") = some true)
     (ks_BadValue_NoLayer_BadPlace_NoChange_Taken_TooLarge_Singular_EndlessRegion : PySem.W.kitAny K (.ref C_BadValue) ([C_NoLayer, C_BadPlace, C_NoChange, C_Taken, C_TooLarge, C_Singular, C_EndlessRegion].map Value.ref) = some false)
     (ks_BadValue_HistoryError_LineError_FileError : PySem.W.kitAny K (.ref C_BadValue) ([C_HistoryError, C_LineError, C_FileError].map Value.ref) = some false)
     (ki_BadValue_BadValue : PySem.W.kitOne K (.ref C_BadValue) (.ref C_BadValue) = some true)
     (ki_BadValue_DeedError : PySem.W.kitOne K (.ref C_BadValue) (.ref C_DeedError) = some true)
     (ki_BadValue_ValueError : PySem.W.kitOne K (.ref C_BadValue) (.type "ValueError") = some true)
     (fhg_BadValue_field : PySem.W.findIn K (.ref C_BadValue) "__getattribute__" = some (some (.builtin "BaseException.__getattribute__"))) (fhk_BadValue_field : PySem.W.findIn K (.ref C_BadValue) "__getattr__" = some none) (fhs_BadValue_field : PySem.W.subIn K (.ref C_BadValue) (.type "BaseException") = some true) (fhd_BadValue_field : PySem.W.hasDictIn K C_BadValue = true) (fno_BadValue_field : PySem.W.findIn K (.ref C_BadValue) "field" = some none)
     (eqi_Curve : PySem.W.isFn K (.ref f18) = true)
     (srd_Curve_identity : PySem.W.readsIn K C_Curve (.type "type") = true) (sga_Curve_identity : PySem.W.specialIn K (.ref C_Curve) "__getattribute__" = some (some (.builtin "type.__getattribute__"))) (sat_Curve_identity : PySem.W.findCls K (.ref C_Curve) (.type "type") "identity" = some (.get (.builtin "staticmethod.__get__") (.ref p_Curve_identity) .none (.ref C_Curve)))
     (srd_Curve_inverted : PySem.W.readsIn K C_Curve (.type "type") = true) (sga_Curve_inverted : PySem.W.specialIn K (.ref C_Curve) "__getattribute__" = some (some (.builtin "type.__getattribute__"))) (sat_Curve_inverted : PySem.W.findCls K (.ref C_Curve) (.type "type") "inverted" = some (.get (.builtin "staticmethod.__get__") (.ref p_Curve_inverted) .none (.ref C_Curve))) :
    ∃ fd : FuncData, (∀ (s : Shared) (v : Value), BindsTo s fd ⟨[v], []⟩ [("script", v)]) ∧ ∀ base : Heap, K.In base → base.Ns mainGlobals mg → FnOk l.prog w K mg base (L2.CX l.prog w) 7 fa fd ["script"] (SpLaw K) := by
  have e := hfa.symm.trans (PySem.W.mg_of X G a26)
  cases e
  have F0 := fun_mk (st := s_are_points) l0 c0 (keep_of l0)
  have b0 := F0.binds (ps := ["points"]) fun _ _ _ _ _ _ us hl => match us, hl with | [_], _ => rfl
  have F1 := fun_mk (st := s_heights) l1 c1 (keep_of l1)
  have b1 := F1.binds (ps := ["points"]) fun _ _ _ _ _ _ us hl => match us, hl with | [_], _ => rfl
  have F2 := fun_mk (st := s_law_draws) l2 c2 (keep_of l2)
  have b2 := F2.binds (ps := ["script", "at", "count"]) fun _ _ _ _ _ _ us hl => match us, hl with | [_, _, _], _ => rfl
  have F3 := fun_mk (st := s_law_take) l3 c3 (keep_of l3)
  have b3 := F3.binds (ps := ["pool", "many"]) fun _ _ _ _ _ _ us hl => match us, hl with | [_, _], _ => rfl
  have F4 := fun_mk (st := s_law_whole) l4 c4 (keep_of l4)
  have b4 := F4.binds (ps := ["got"]) fun _ _ _ _ _ _ us hl => match us, hl with | [_], _ => rfl
  have F5 := fun_mk (st := s_Curve_call) l5 c5 (keep_of l5)
  have b5 := F5.binds (ps := ["self", "v"]) fun _ _ _ _ _ _ us hl => match us, hl with | [_, _], _ => rfl
  have F6 := fun_mk (st := s_law_pool) l6 c6 (keep_of l6)
  have b6 := F6.binds (ps := ["script", "cells", "count"]) fun _ _ _ _ _ _ us hl => match us, hl with | [_, _, _], _ => rfl
  have F7 := fun_mk (st := s_law_pick) l7 c7 (keep_of l7)
  have b7 := F7.binds (ps := ["pool", "rows"]) fun _ _ _ _ _ _ us hl => match us, hl with | [_, _], _ => rfl
  have F8 := fun_mk (st := s_law_line) l8 c8 (keep_of l8)
  have b8 := F8.binds (ps := ["curve", "points"]) fun _ _ _ _ _ _ us hl => match us, hl with | [_, _], _ => rfl
  have F9 := fun_mk (st := s_law_rises) l9 c9 (keep_of l9)
  have b9 := F9.binds (ps := ["curve", "points"]) fun _ _ _ _ _ _ us hl => match us, hl with | [_, _], _ => rfl
  have F10 := fun_mk (st := s_law_value) l10 c10 (keep_of l10)
  have b10 := F10.binds (ps := ["pool"]) fun _ _ _ _ _ _ us hl => match us, hl with | [_], _ => rfl
  have F11 := fun_mk (st := s_law_faulty) l11 c11 (keep_of l11)
  have b11 := F11.binds (ps := ["pool", "points"]) fun _ _ _ _ _ _ us hl => match us, hl with | [_, _], _ => rfl
  have F12 := fun_mk (st := s_law_off) l12 c12 (keep_of l12)
  have b12 := F12.binds (ps := ["pool", "four"]) fun _ _ _ _ _ _ us hl => match us, hl with | [_, _], _ => rfl
  have F13 := fun_mk (st := s_Curve_init) l13 c13 (keep_of l13)
  have b13 := F13.binds (ps := ["self", "points"]) fun _ _ _ _ _ _ us hl => match us, hl with | [_, _], _ => rfl
  have F14 := fun_mk (st := s_law_same) l14 c14 (keep_of l14)
  have b14 := F14.binds (ps := ["got", "due"]) fun _ _ _ _ _ _ us hl => match us, hl with | [_, _], _ => rfl
  have F15 := fun_mk (st := s_law_points) l15 c15 (keep_of l15)
  have b15 := F15.binds (ps := ["pool"]) fun _ _ _ _ _ _ us hl => match us, hl with | [_], _ => rfl
  have F16 := fun_mk (st := s_law_levels) l16 c16 (keep_of l16)
  have b16 := F16.binds (ps := ["pool"]) fun _ _ _ _ _ _ us hl => match us, hl with | [_], _ => rfl
  have F17 := fun_mk (st := s_law_is) l17 c17 (keep_of l17)
  have b17 := F17.binds (ps := ["curve", "points"]) fun _ _ _ _ _ _ us hl => match us, hl with | [_, _], _ => rfl
  have F18 := fun_mk (st := s_Curve_eq) l18 c18 (keep_of l18)
  have b18 := F18.binds (ps := ["self", "other"]) fun _ _ _ _ _ _ us hl => match us, hl with | [_, _], _ => rfl
  have F19 := fun_mk (st := s_Curve_identity) l19 c19 (keep_of l19)
  have b19 := F19.binds (ps := []) fun _ _ _ _ _ _ us hl => match us, hl with | [], _ => rfl
  have F20 := fun_mk (st := s_Curve_inverted) l20 c20 (keep_of l20)
  have b20 := F20.binds (ps := []) fun _ _ _ _ _ _ us hl => match us, hl with | [], _ => rfl
  have F21 := fun_mk (st := s_Curve_levels) l21 c21 (keep_of l21)
  have b21 := F21.binds (ps := ["black", "white", "low", "high"]) fun _ _ _ _ _ _ us hl => match us, hl with | [_, _, _, _], _ => rfl
  have F22 := fun_mk (st := s_Curve_threshold) l22 c22 (keep_of l22)
  have b22 := F22.binds (ps := ["n"]) fun _ _ _ _ _ _ us hl => match us, hl with | [_], _ => rfl
  have F23 := fun_mk (st := s_law_refused) l23 c23 (keep_of l23)
  have b23 := F23.binds (ps := ["way", "row"]) fun _ _ _ _ _ _ us hl => match us, hl with | [_, _], _ => rfl
  have F24 := fun_mk (st := s_law_likes) l24 c24 (keep_of l24)
  have b24 := F24.binds (ps := ["pool", "curve", "points"]) fun _ _ _ _ _ _ us hl => match us, hl with | [_, _, _], _ => rfl
  have F25 := fun_mk (st := s_law_makers) l25 c25 (keep_of l25)
  have b25 := F25.binds (ps := ["pool", "four", "n"]) fun _ _ _ _ _ _ us hl => match us, hl with | [_, _, _], _ => rfl
  have F26 := fun_mk (st := s_law) l26 c26 (keep_of l26)
  have b26 := F26.binds (ps := ["script"]) fun _ _ _ _ _ _ us hl => match us, hl with | [_], _ => rfl
  exact ⟨_, fun s v => .of_eq rfl, fun base _ _ => ok_law { f_are_points := _, d_are_points := _, F_are_points := F0, m_are_points := PySem.W.mg_of X G a0, b_are_points := b0, f_heights := _, d_heights := _, F_heights := F1, m_heights := PySem.W.mg_of X G a1, b_heights := b1, f_law_draws := _, d_law_draws := _, F_law_draws := F2, m_law_draws := PySem.W.mg_of X G a2, b_law_draws := b2, f_law_take := _, d_law_take := _, F_law_take := F3, m_law_take := PySem.W.mg_of X G a3, b_law_take := b3, f_law_whole := _, d_law_whole := _, F_law_whole := F4, m_law_whole := PySem.W.mg_of X G a4, b_law_whole := b4, f_Curve_call := _, d_Curve_call := _, F_Curve_call := F5, b_Curve_call := b5, f_law_pool := _, d_law_pool := _, F_law_pool := F6, m_law_pool := PySem.W.mg_of X G a6, b_law_pool := b6, f_law_pick := _, d_law_pick := _, F_law_pick := F7, m_law_pick := PySem.W.mg_of X G a7, b_law_pick := b7, f_law_line := _, d_law_line := _, F_law_line := F8, m_law_line := PySem.W.mg_of X G a8, b_law_line := b8, f_law_rises := _, d_law_rises := _, F_law_rises := F9, m_law_rises := PySem.W.mg_of X G a9, b_law_rises := b9, f_law_value := _, d_law_value := _, F_law_value := F10, m_law_value := PySem.W.mg_of X G a10, b_law_value := b10, f_law_faulty := _, d_law_faulty := _, F_law_faulty := F11, m_law_faulty := PySem.W.mg_of X G a11, b_law_faulty := b11, f_law_off := _, d_law_off := _, F_law_off := F12, m_law_off := PySem.W.mg_of X G a12, b_law_off := b12, f_Curve_init := _, d_Curve_init := _, F_Curve_init := F13, b_Curve_init := b13, f_law_same := _, d_law_same := _, F_law_same := F14, m_law_same := PySem.W.mg_of X G a14, b_law_same := b14, f_law_points := _, d_law_points := _, F_law_points := F15, m_law_points := PySem.W.mg_of X G a15, b_law_points := b15, f_law_levels := _, d_law_levels := _, F_law_levels := F16, m_law_levels := PySem.W.mg_of X G a16, b_law_levels := b16, f_law_is := _, d_law_is := _, F_law_is := F17, m_law_is := PySem.W.mg_of X G a17, b_law_is := b17, f_Curve_eq := _, d_Curve_eq := _, F_Curve_eq := F18, b_Curve_eq := b18, f_Curve_identity := _, d_Curve_identity := _, F_Curve_identity := F19, b_Curve_identity := b19, f_Curve_inverted := _, d_Curve_inverted := _, F_Curve_inverted := F20, b_Curve_inverted := b20, f_Curve_levels := _, d_Curve_levels := _, F_Curve_levels := F21, b_Curve_levels := b21, f_Curve_threshold := _, d_Curve_threshold := _, F_Curve_threshold := F22, b_Curve_threshold := b22, f_law_refused := _, d_law_refused := _, F_law_refused := F23, m_law_refused := PySem.W.mg_of X G a23, b_law_refused := b23, f_law_likes := _, d_law_likes := _, F_law_likes := F24, m_law_likes := PySem.W.mg_of X G a24, b_law_likes := b24, f_law_makers := _, d_law_makers := _, F_law_makers := F25, m_law_makers := PySem.W.mg_of X G a25, b_law_makers := b25, f_law := _, d_law := _, F_law := F26, m_law := PySem.W.mg_of X G a26, b_law := b26, z_ValueError := PySem.W.mg_none_of X G z_ValueError, z_abs := PySem.W.mg_none_of X G z_abs, z_all := PySem.W.mg_none_of X G z_all, z_any := PySem.W.mg_none_of X G z_any, z_bool := PySem.W.mg_none_of X G z_bool, z_int := PySem.W.mg_none_of X G z_int, z_isinstance := PySem.W.mg_none_of X G z_isinstance, z_len := PySem.W.mg_none_of X G z_len, z_list := PySem.W.mg_none_of X G z_list, z_min := PySem.W.mg_none_of X G z_min, z_range := PySem.W.mg_none_of X G z_range, z_reversed := PySem.W.mg_none_of X G z_reversed, z_sorted := PySem.W.mg_none_of X G z_sorted, z_tuple := PySem.W.mg_none_of X G z_tuple, z_zip := PySem.W.mg_none_of X G z_zip, C_Curve := C_Curve, nC_Curve := nC_Curve, gC_Curve := PySem.W.mg_of X G nC_Curve, C_BadValue := C_BadValue, nC_BadValue := nC_BadValue, gC_BadValue := PySem.W.mg_of X G nC_BadValue, C_EaselError := C_EaselError, nC_EaselError := nC_EaselError, gC_EaselError := PySem.W.mg_of X G nC_EaselError, C_NoLayer := C_NoLayer, nC_NoLayer := nC_NoLayer, gC_NoLayer := PySem.W.mg_of X G nC_NoLayer, C_BadPlace := C_BadPlace, nC_BadPlace := nC_BadPlace, gC_BadPlace := PySem.W.mg_of X G nC_BadPlace, C_NoChange := C_NoChange, nC_NoChange := nC_NoChange, gC_NoChange := PySem.W.mg_of X G nC_NoChange, C_Taken := C_Taken, nC_Taken := nC_Taken, gC_Taken := PySem.W.mg_of X G nC_Taken, C_TooLarge := C_TooLarge, nC_TooLarge := nC_TooLarge, gC_TooLarge := PySem.W.mg_of X G nC_TooLarge, C_Singular := C_Singular, nC_Singular := nC_Singular, gC_Singular := PySem.W.mg_of X G nC_Singular, C_EndlessRegion := C_EndlessRegion, nC_EndlessRegion := nC_EndlessRegion, gC_EndlessRegion := PySem.W.mg_of X G nC_EndlessRegion, C_HistoryError := C_HistoryError, nC_HistoryError := nC_HistoryError, gC_HistoryError := PySem.W.mg_of X G nC_HistoryError, C_LineError := C_LineError, nC_LineError := nC_LineError, gC_LineError := PySem.W.mg_of X G nC_LineError, C_FileError := C_FileError, nC_FileError := nC_FileError, gC_FileError := PySem.W.mg_of X G nC_FileError, C_DeedError := C_DeedError, nC_DeedError := nC_DeedError, gC_DeedError := PySem.W.mg_of X G nC_DeedError, cl_Curve := ⟨cpg_Curve, chd_Curve, cpo_Curve, csa_Curve⟩, cf_Curve_heights := ⟨C_Curve, nC_Curve, ⟨cpg_Curve, chd_Curve, cpo_Curve, csa_Curve⟩, cna_Curve_heights⟩, co_Curve := ⟨a5, ofn_Curve, ofi_Curve⟩, O_BadValue := ⟨⟨_, _, _, _, _, _, _, _, _, _, _, _, _, _, _, xL_BadValue, rv_BadValue⟩, sa_BadValue, eC_BadValue, tC_BadValue, kC_BadValue⟩, I_BadValue := I_BadValue, DI_BadValue := _, iI_BadValue := iI_BadValue, tI_BadValue := tI_BadValue, FI_BadValue := fun_mk (st := initS_BadValue) lI_BadValue cI_BadValue (keep_of lI_BadValue), bI_BadValue := (fun_mk (st := initS_BadValue) lI_BadValue cI_BadValue (keep_of lI_BadValue)).binds (ps := ["self", "field"]) fun _ _ _ _ _ _ us hl => match us, hl with | [_, _], _ => rfl, no_BadValue := no_BadValue, cf_Curve_points := ⟨C_Curve, nC_Curve, ⟨cpg_Curve, chd_Curve, cpo_Curve, csa_Curve⟩, cna_Curve_points⟩, is_Curve := ⟨nC_Curve, ⟨cpg_Curve, chd_Curve, cpo_Curve, csa_Curve⟩, sha_Curve, shn_Curve, sht_Curve, shm_Curve, all7 skNoneType_Curve skbool_Curve skint_Curve skstr_Curve sktuple_Curve sklist_Curve skdict_Curve, all7 (nf_of ssNoneType_Curve) (nf_of ssbool_Curve) (nf_of ssint_Curve) (nf_of ssstr_Curve) (nf_of sstuple_Curve) (nf_of sslist_Curve) (nf_of ssdict_Curve)⟩, mk_Curve := ⟨kmk_Curve, a13, kfn_Curve, kkp_Curve⟩, em_BadValue_EaselError := em_BadValue_EaselError, p_Curve_levels := p_Curve_levels, sc_Curve_levels := ⟨⟨srd_Curve_levels, sga_Curve_levels⟩, sat_Curve_levels, ⟨_, a21⟩, F21.kp⟩, p_Curve_threshold := p_Curve_threshold, sc_Curve_threshold := ⟨⟨srd_Curve_threshold, sga_Curve_threshold⟩, sat_Curve_threshold, ⟨_, a22⟩, F22.kp⟩, X_BadValue := ⟨Xhg_BadValue, Xhk_BadValue, Xhs_BadValue, Xhd_BadValue, Xha_BadValue, Xhn_BadValue, Xht_BadValue, Xhm_BadValue⟩, ks_BadValue_NoLayer_BadPlace_NoChange_Taken_TooLarge_Singular_EndlessRegion := ks_BadValue_NoLayer_BadPlace_NoChange_Taken_TooLarge_Singular_EndlessRegion, ks_BadValue_HistoryError_LineError_FileError := ks_BadValue_HistoryError_LineError_FileError, ki_BadValue_BadValue := ki_BadValue_BadValue, ki_BadValue_DeedError := ki_BadValue_DeedError, ki_BadValue_ValueError := ki_BadValue_ValueError, xf_BadValue_field := ⟨⟨fhg_BadValue_field, fhk_BadValue_field, fhs_BadValue_field, fhd_BadValue_field⟩, fno_BadValue_field⟩, oe_Curve := ⟨a18, eqi_Curve⟩, p_Curve_identity := p_Curve_identity, sc_Curve_identity := ⟨⟨srd_Curve_identity, sga_Curve_identity⟩, sat_Curve_identity, ⟨_, a19⟩, F19.kp⟩, p_Curve_inverted := p_Curve_inverted, sc_Curve_inverted := ⟨⟨srd_Curve_inverted, sga_Curve_inverted⟩, sat_Curve_inverted, ⟨_, a20⟩, F20.kp⟩ }⟩
end LW
open PySem PySem.W PyProof.Rows
set_option maxRecDepth 100000 in
set_option maxHeartbeats 0 in
theorem PySem.Challenge.cw_easelwork_k11_curves_holds : PySem.Challenge.rw_easelwork_k11_curves.Holds := by
  w_on; o_law; k_head; (case hw => w_witness2)
  k_fill
  refine L2.walk_ofB (l := PySem.Challenge.rw_easelwork_k11_curves) (n := 63) (k := 7) (x := "script") (CX := fun w => L2.CX (PySem.Challenge.rw_easelwork_k11_curves).prog w) (sp := fun w => DL.SpLaw _) rfl (by decide) rfl ⟨rfl, by decide, by decide⟩ (fun w h Y => PySem.W.kIn_of Y) ?F (fun _ _ a ns hl hz _ hS => ⟨a, ns, rfl, hS, hl, hz, fun _ => rfl⟩) (fun w H s e s1 h => LW.cx_no _ w H s e s1 h)
  case F =>
    intro w mg fa h KX G hmg
    refine' LW.all_mk KX G hmg ?a0 ?l0 ?c0 ?a1 ?l1 ?c1 ?a2 ?l2 ?c2 ?a3 ?l3 ?c3 ?a4 ?l4 ?c4 ?a6 ?l6 ?c6 ?a7 ?l7 ?c7 ?a8 ?l8 ?c8 ?a9 ?l9 ?c9 ?a10 ?l10 ?c10 ?a11 ?l11 ?c11 ?a12 ?l12 ?c12 ?a14 ?l14 ?c14 ?a15 ?l15 ?c15 ?a16 ?l16 ?c16 ?a17 ?l17 ?c17 ?a23 ?l23 ?c23 ?a24 ?l24 ?c24 ?a25 ?l25 ?c25 ?a26 ?l26 ?c26 ?z_ValueError ?z_abs ?z_all ?z_any ?z_bool ?z_int ?z_isinstance ?z_len ?z_list ?z_min ?z_range ?z_reversed ?z_sorted ?z_tuple ?z_zip ?nC_Curve ?nC_BadValue ?nC_EaselError ?nC_NoLayer ?nC_BadPlace ?nC_NoChange ?nC_Taken ?nC_TooLarge ?nC_Singular ?nC_EndlessRegion ?nC_HistoryError ?nC_LineError ?nC_FileError ?nC_DeedError ?a5 ?l5 ?c5 ?a13 ?l13 ?c13 ?a18 ?l18 ?c18 ?a19 ?l19 ?c19 ?a20 ?l20 ?c20 ?a21 ?l21 ?c21 ?a22 ?l22 ?c22 ?cpg_Curve ?chd_Curve ?cpo_Curve ?csa_Curve ?cna_Curve_heights ?ofn_Curve ?ofi_Curve ?xL_BadValue ?rv_BadValue ?sa_BadValue ?eC_BadValue ?tC_BadValue ?kC_BadValue ?iI_BadValue ?tI_BadValue ?lI_BadValue ?cI_BadValue ?no_BadValue ?cna_Curve_points ?sha_Curve ?shn_Curve ?sht_Curve ?shm_Curve ?skNoneType_Curve ?skbool_Curve ?skint_Curve ?skstr_Curve ?sktuple_Curve ?sklist_Curve ?skdict_Curve ?ssNoneType_Curve ?ssbool_Curve ?ssint_Curve ?ssstr_Curve ?sstuple_Curve ?sslist_Curve ?ssdict_Curve ?kmk_Curve ?kfn_Curve ?kkp_Curve ?em_BadValue_EaselError ?srd_Curve_levels ?sga_Curve_levels ?sat_Curve_levels ?srd_Curve_threshold ?sga_Curve_threshold ?sat_Curve_threshold ?Xhg_BadValue ?Xhk_BadValue ?Xhs_BadValue ?Xhd_BadValue ?Xha_BadValue ?Xhn_BadValue ?Xht_BadValue ?Xhm_BadValue ?ks_BadValue_NoLayer_BadPlace_NoChange_Taken_TooLarge_Singular_EndlessRegion ?ks_BadValue_HistoryError_LineError_FileError ?ki_BadValue_BadValue ?ki_BadValue_DeedError ?ki_BadValue_ValueError ?fhg_BadValue_field ?fhk_BadValue_field ?fhs_BadValue_field ?fhd_BadValue_field ?fno_BadValue_field ?eqi_Curve ?srd_Curve_identity ?sga_Curve_identity ?sat_Curve_identity ?srd_Curve_inverted ?sga_Curve_inverted ?sat_Curve_inverted
    (case a0 => k_is); (case l0 => k_is); (case c0 => k_is); (case a1 => k_is); (case l1 => k_is); (case c1 => k_is); (case a2 => k_is); (case l2 => k_is); (case c2 => k_is); (case a3 => k_is); (case l3 => k_is); (case c3 => k_is); (case a4 => k_is); (case l4 => k_is); (case c4 => k_is); (case a6 => k_is); (case l6 => k_is); (case c6 => k_is); (case a7 => k_is); (case l7 => k_is); (case c7 => k_is); (case a8 => k_is); (case l8 => k_is); (case c8 => k_is); (case a9 => k_is); (case l9 => k_is); (case c9 => k_is); (case a10 => k_is); (case l10 => k_is); (case c10 => k_is); (case a11 => k_is); (case l11 => k_is); (case c11 => k_is); (case a12 => k_is); (case l12 => k_is); (case c12 => k_is); (case a14 => k_is); (case l14 => k_is); (case c14 => k_is); (case a15 => k_is); (case l15 => k_is); (case c15 => k_is); (case a16 => k_is); (case l16 => k_is); (case c16 => k_is); (case a17 => k_is); (case l17 => k_is); (case c17 => k_is); (case a23 => k_is); (case l23 => k_is); (case c23 => k_is); (case a24 => k_is); (case l24 => k_is); (case c24 => k_is); (case a25 => k_is); (case l25 => k_is); (case c25 => k_is); (case a26 => k_is); (case l26 => k_is); (case c26 => k_is); (case z_ValueError => k_is); (case z_abs => k_is); (case z_all => k_is); (case z_any => k_is); (case z_bool => k_is); (case z_int => k_is); (case z_isinstance => k_is); (case z_len => k_is); (case z_list => k_is); (case z_min => k_is); (case z_range => k_is); (case z_reversed => k_is); (case z_sorted => k_is); (case z_tuple => k_is); (case z_zip => k_is); (case nC_Curve => k_is); (case nC_BadValue => k_is); (case nC_EaselError => k_is); (case nC_NoLayer => k_is); (case nC_BadPlace => k_is); (case nC_NoChange => k_is); (case nC_Taken => k_is); (case nC_TooLarge => k_is); (case nC_Singular => k_is); (case nC_EndlessRegion => k_is); (case nC_HistoryError => k_is); (case nC_LineError => k_is); (case nC_FileError => k_is); (case nC_DeedError => k_is); (case srd_Curve_levels => k_is); (case sga_Curve_levels => k_is); (case sat_Curve_levels => k_is); (case srd_Curve_threshold => k_is); (case sga_Curve_threshold => k_is); (case sat_Curve_threshold => k_is); (case srd_Curve_identity => k_is); (case sga_Curve_identity => k_is); (case sat_Curve_identity => k_is); (case srd_Curve_inverted => k_is); (case sga_Curve_inverted => k_is); (case sat_Curve_inverted => k_is); (case a5 => k_is); (case l5 => k_is); (case c5 => k_is); (case a13 => k_is); (case l13 => k_is); (case c13 => k_is); (case a18 => k_is); (case l18 => k_is); (case c18 => k_is); (case a19 => k_is); (case l19 => k_is); (case c19 => k_is); (case a20 => k_is); (case l20 => k_is); (case c20 => k_is); (case a21 => k_is); (case l21 => k_is); (case c21 => k_is); (case a22 => k_is); (case l22 => k_is); (case c22 => k_is); (case cpg_Curve => k_is); (case chd_Curve => k_is); (case cpo_Curve => k_is); (case csa_Curve => k_is); (case cna_Curve_heights => k_is); (case ofn_Curve => k_is); (case ofi_Curve => k_is); (case xL_BadValue => k_is); (case rv_BadValue => first | rfl | decide +kernel); (case sa_BadValue => k_is); (case eC_BadValue => k_is); (case tC_BadValue => k_is); (case kC_BadValue => k_is); (case iI_BadValue => k_is); (case tI_BadValue => k_is); (case lI_BadValue => k_is); (case cI_BadValue => k_is); (case no_BadValue => k_is); (case cna_Curve_points => k_is); (case sha_Curve => k_is); (case shn_Curve => k_is); (case sht_Curve => k_is); (case shm_Curve => k_is); (case skNoneType_Curve => first | k_is | rfl); (case skbool_Curve => first | k_is | rfl); (case skint_Curve => first | k_is | rfl); (case skstr_Curve => first | k_is | rfl); (case sktuple_Curve => first | k_is | rfl); (case sklist_Curve => first | k_is | rfl); (case skdict_Curve => first | k_is | rfl); (case ssNoneType_Curve => first | k_is | rfl); (case ssbool_Curve => first | k_is | rfl); (case ssint_Curve => first | k_is | rfl); (case ssstr_Curve => first | k_is | rfl); (case sstuple_Curve => first | k_is | rfl); (case sslist_Curve => first | k_is | rfl); (case ssdict_Curve => first | k_is | rfl); (case kmk_Curve => k_is); (case kfn_Curve => k_is); (case kkp_Curve => k_is); (case em_BadValue_EaselError => first | k_is | rfl); (case Xhg_BadValue => k_is); (case Xhk_BadValue => k_is); (case Xhs_BadValue => k_is); (case Xhd_BadValue => k_is); (case Xha_BadValue => k_is); (case Xhn_BadValue => k_is); (case Xht_BadValue => k_is); (case Xhm_BadValue => k_is); (case ks_BadValue_NoLayer_BadPlace_NoChange_Taken_TooLarge_Singular_EndlessRegion => first | k_is | rfl); (case ks_BadValue_HistoryError_LineError_FileError => first | k_is | rfl); (case ki_BadValue_BadValue => first | k_is | rfl); (case ki_BadValue_DeedError => first | k_is | rfl); (case ki_BadValue_ValueError => first | k_is | rfl); (case fhg_BadValue_field => k_is); (case fhk_BadValue_field => k_is); (case fhs_BadValue_field => k_is); (case fhd_BadValue_field => k_is); (case fno_BadValue_field => k_is); (case eqi_Curve => k_is)
