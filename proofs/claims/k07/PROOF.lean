import PyProof.Rows.All
import Wide.All
import OpenK.AllK
import Wide.FinOn
import HandS.ForMost
import HandS.IsInst
import HandS.EndBits
import HandS.ForExc
import HandS.ForSpec
import HandS.TupAny
import HandS.SortInts
import HandS.Rev
import HandS.ExcIs
import HandS.ExcInit
import HandS.ExcField
import HandS.More
import HandS.Text
import HandS.NoneIn
import HandS.CallSlots
import HandS.TupLen
import HandS.Star
import HandS.ClsMeth
import HandS.Zip
import HandS.Style
import HandS.HotCalls
import PyProof.LongRange
import PySem.Challenge.RW_easelwork_k07_rects_and_blocks
set_option Elab.async false
set_option linter.all false
set_option maxRecDepth 100000
namespace DL
open PySem PySem.Spec L2

/-- data without addresses -/
inductive D where
  | non | bl (b : Bool) | int (i : Int) | str (x : Str) | tup (ds : List D) | lst (ds : List D) | rdl (ds : List D) | dct | dk (ks : List Key) (ds : List D) | dt (ks : List (List Key)) (ds : List D) | ob (c : Str) (ks : List Str) (ds : List D) | fn (x : Str) | rf (v : V)

mutual
inductive RepD (K : PySem.W.Frag) (F : Hp) : V → D → Prop
  | non : RepD K F .non .non
  | bl (b : Bool) : RepD K F (.bl b) (.bl b)
  | int (i : Int) : RepD K F (.int i) (.int i)
  | str (x : Str) : RepD K F (.str x) (.str x)
  | tup {a : Addr} {xs : List V} {ds : List D} : SqT K F a xs → RepL K F xs ds → RepD K F (.ref a) (.tup ds)
  | lst {a : Addr} {xs : List V} {ds : List D} : F a = some (.lst xs) → RepL K F xs ds → RepD K F (.ref a) (.lst ds)
  | rdl {a : Addr} {xs : List V} {ds : List D} : SqL K F a xs → RepL K F xs ds → RepD K F (.ref a) (.rdl ds)
  | dct {a : Addr} {kvs : List (Key × V)} : F a = some (.dK kvs) → RepD K F (.ref a) .dct
  | dk {a : Addr} {kvs : List (Key × V)} {ks : List Key} {ds : List D} : F a = some (.dK kvs) → kvs.map (·.1) = ks → RepL K F (kvs.map (·.2)) ds → RepD K F (.ref a) (.dk ks ds)
  | dt {a : Addr} {kvs : List (List Key × V)} {ks : List (List Key)} {ds : List D} : F a = some (.dT kvs) → kvs.map (·.1) = ks → RepL K F (kvs.map (·.2)) ds → RepD K F (.ref a) (.dt ks ds)
  | ob {a C dx : Addr} {c : Str} {fs : List (Str × V)} {ks : List Str} {ds : List D} : PySem.W.nsIn K mainGlobals c = some (some (.ref C)) → F a = some (.ins C dx fs) → fs.map (·.1) = ks → RepL K F (fs.map (·.2)) ds → RepD K F (.ref a) (.ob c ks ds)
  | fn {a : Addr} {x : Str} : PySem.W.nsIn K mainGlobals x = some (some (.ref a)) → RepD K F (.ref a) (.fn x)
  | rf (v : V) : RepD K F v (.rf v)
inductive RepL (K : PySem.W.Frag) (F : Hp) : List V → List D → Prop
  | nil : RepL K F [] []
  | cons {v : V} {d : D} {vs : List V} {ds : List D} : RepD K F v d → RepL K F vs ds → RepL K F (v :: vs) (d :: ds)
end

theorem seqT {K : PySem.W.Frag} {H H' : Hp} {a : Addr} {xs : List V} (e : Same H H') (h : SqT K H a xs) : SqT K H' a xs := by
  rcases h with (h | ⟨o, h⟩) | h
  · exact .inl (.inl (e _ _ h))
  · exact .inl (.inr ⟨o, e _ _ h⟩)
  · exact .inr h

mutual
theorem RepD.mono {K : PySem.W.Frag} {F F' : Hp} (s : Same F F') : ∀ {v : V} {d : D}, RepD K F v d → RepD K F' v d
  | _, _, .non => .non
  | _, _, .bl b => .bl b
  | _, _, .int i => .int i
  | _, _, .str x => .str x
  | _, _, .tup h r => .tup (seqT s h) (RepL.mono s r)
  | _, _, .lst h r => .lst (s _ _ h) (RepL.mono s r)
  | _, _, .rdl h r => .rdl (s.seq h) (RepL.mono s r)
  | _, _, .dct h => .dct (s _ _ h)
  | _, _, .dk h e r => .dk (s _ _ h) e (RepL.mono s r)
  | _, _, .dt h e r => .dt (s _ _ h) e (RepL.mono s r)
  | _, _, .ob n h e r => .ob n (s _ _ h) e (RepL.mono s r)
  | _, _, .fn h => .fn h
  | _, _, .rf v => .rf v
theorem RepL.mono {K : PySem.W.Frag} {F F' : Hp} (s : Same F F') : ∀ {vs : List V} {ds : List D}, RepL K F vs ds → RepL K F' vs ds
  | _, _, .nil => .nil
  | _, _, .cons h r => .cons (RepD.mono s h) (RepL.mono s r)
end
section
variable {K : PySem.W.Frag} {F : Hp}
theorem RepL.length : ∀ {vs : List V} {ds : List D}, RepL K F vs ds → vs.length = ds.length
  | _, _, .nil => rfl
  | _, _, .cons _ r => congrArg (· + 1) (RepL.length r)
theorem RepL.get : ∀ {vs : List V} {ds : List D} {i : Nat} {d : D}, RepL K F vs ds → ds[i]? = some d → ∃ v, vs[i]? = some v ∧ RepD K F v d
  | _, _, i, d, .nil, h => by simp at h
  | _, _, 0, d, .cons h _, e => by
    simp at e; subst e; exact ⟨_, rfl, h⟩
  | _, _, i + 1, d, .cons _ r, e => by
    obtain ⟨v, a, b⟩ := RepL.get (i := i) r (by simpa using e)
    exact ⟨v, by simpa using a, b⟩
theorem RepL.getV : ∀ {vs : List V} {ds : List D} {i : Nat} {v : V}, RepL K F vs ds → vs[i]? = some v → ∃ d, ds[i]? = some d ∧ RepD K F v d
  | _, _, i, v, .nil, h => by simp at h
  | _, _, 0, v, .cons h _, e => by
    simp at e; subst e; exact ⟨_, rfl, h⟩
  | _, _, i + 1, v, .cons _ r, e => by
    obtain ⟨d, a, b⟩ := RepL.getV (i := i) r (by simpa using e)
    exact ⟨d, by simpa using a, b⟩
theorem RepL.append : ∀ {vs : List V} {ds : List D} {ws : List V} {es : List D}, RepL K F vs ds → RepL K F ws es → RepL K F (vs ++ ws) (ds ++ es)
  | _, _, _, _, .nil, s => s
  | _, _, _, _, .cons h r, s => .cons h (RepL.append r s)
theorem RepL.take : ∀ {vs : List V} {ds : List D} (n : Nat), RepL K F vs ds → RepL K F (vs.take n) (ds.take n)
  | _, _, 0, _ => .nil
  | _, _, _ + 1, .nil => .nil
  | _, _, n + 1, .cons h r => .cons h (RepL.take n r)
theorem RepL.drop : ∀ {vs : List V} {ds : List D} (n : Nat), RepL K F vs ds → RepL K F (vs.drop n) (ds.drop n)
  | _, _, 0, r => r
  | _, _, _ + 1, .nil => .nil
  | _, _, n + 1, .cons _ r => RepL.drop n r
theorem RepL.set {v : V} {d : D} (h : RepD K F v d) : ∀ {vs : List V} {ds : List D} (i : Nat), RepL K F vs ds → RepL K F (vs.set i v) (ds.set i d)
  | _, _, _, .nil => .nil
  | _, _, 0, .cons _ r => .cons h r
  | _, _, i + 1, .cons q r => .cons q (RepL.set h i r)
theorem RepL.dropLast : ∀ {vs : List V} {ds : List D}, RepL K F vs ds → RepL K F vs.dropLast ds.dropLast
  | _, _, .nil => .nil
  | _, _, .cons _ .nil => .nil
  | _, _, .cons h (.cons h2 r) => .cons h (RepL.dropLast (.cons h2 r))
theorem RepL.reverse : ∀ {vs : List V} {ds : List D}, RepL K F vs ds → RepL K F vs.reverse ds.reverse
  | _, _, .nil => .nil
  | _, _, .cons h r => by
    rw [List.reverse_cons, List.reverse_cons]
    exact RepL.append (RepL.reverse r) (.cons h .nil)
theorem RepL.ints : ∀ {vs : List V} {ns : List Int}, RepL K F vs (ns.map D.int) → vs = ns.map V.int := by
  intro vs ns
  induction ns generalizing vs with
  | nil => intro h; cases h; rfl
  | cons n r ih =>
    intro h
    cases h with
    | cons a b => cases a; rw [ih b]; rfl
theorem RepL.of_ints : ∀ (ns : List Int), RepL K F (ns.map V.int) (ns.map D.int)
  | [] => .nil
  | n :: r => .cons (.int n) (RepL.of_ints r)
end

/-! ### steps of the two heaps: F what is frozen, H all that is tracked -/
structure Ste (F H F' H' : Hp) : Prop where
  ff : Same F F'
  fh : Same F' H'
  old : ∀ b, H b ≠ none → F' b = F b
  hh : Same H H'
theorem Ste.refl {F H : Hp} (s : Same F H) : Ste F H F H := ⟨Same.refl F, s, fun _ _ => rfl, Same.refl H⟩
theorem Same.some {H H' : Hp} (s : Same H H') {b : Addr} (h : H b ≠ none) : H' b ≠ none := by
  cases q : H b with
  | none => exact absurd q h
  | some o => rw [s b o q]; exact fun z => by cases z
theorem Ste.trans {F H F1 H1 F2 H2 : Hp} (a : Ste F H F1 H1) (b : Ste F1 H1 F2 H2) : Ste F H F2 H2 :=
  ⟨a.ff.trans b.ff, b.fh, fun c h => (b.old c (Same.some a.hh h)).trans (a.old c h), a.hh.trans b.hh⟩
theorem same_upd {H : Hp} {p : Addr} {o : HO} (h : H p = none) : Same H (upd H p o) := fun b x e => by
  rw [upd_ne (ne_of_none e h)]; exact e
theorem same_upd2 {F H : Hp} {p : Addr} {o : HO} (s : Same F H) : Same (upd F p o) (upd H p o) := fun b x e => by
  by_cases hb : b = p
  · subst hb; rw [upd_same] at e ⊢; exact e
  · rw [upd_ne hb] at e ⊢; exact s b x e
theorem Same.noneF {F H : Hp} (s : Same F H) {p : Addr} (h : H p = none) : F p = none := s.free h
theorem Ste.laid {F H : Hp} {p : Addr} {o : HO} (s : Same F H) (h : H p = none) : Ste F H (upd F p o) (upd H p o) :=
  ⟨same_upd (s.free h), same_upd2 s, fun b hb => upd_ne (fun z => hb (z ▸ h)), same_upd h⟩
theorem Ste.loose {F H : Hp} {p : Addr} {o : HO} (s : Same F H) (h : H p = none) : Ste F H F (upd H p o) :=
  ⟨Same.refl F, s.trans (same_upd h), fun _ _ => rfl, same_upd h⟩

/-! ### dicts -/
def RepQ (K : PySem.W.Frag) (F : Hp) {κ : Type} : List (κ × V) → List (κ × D) → Prop
  | [], [] => True
  | (x, v) :: r, (y, d) :: s => x = y ∧ RepD K F v d ∧ RepQ K F r s
  | _, _ => False
theorem RepQ.mono {K : PySem.W.Frag} {F F' : Hp} (s : Same F F') {κ : Type} : ∀ {kvs : List (κ × V)} {qs : List (κ × D)}, RepQ K F kvs qs → RepQ K F' kvs qs
  | [], [], _ => trivial
  | (x, v) :: r, (y, d) :: t, h => ⟨h.1, h.2.1.mono s, RepQ.mono s h.2.2⟩
  | [], _ :: _, h => h.elim
  | _ :: _, [], h => h.elim
theorem RepQ.parts {K : PySem.W.Frag} {F : Hp} {κ : Type} : ∀ {kvs : List (κ × V)} {qs : List (κ × D)}, RepQ K F kvs qs → kvs.map (·.1) = qs.map (·.1) ∧ RepL K F (kvs.map (·.2)) (qs.map (·.2))
  | [], [], _ => ⟨rfl, .nil⟩
  | (x, v) :: r, (y, d) :: t, h => by
    obtain ⟨h1, h2, h3⟩ := h
    obtain ⟨a, b⟩ := RepQ.parts h3
    exact ⟨by simp [h1, a], .cons h2 b⟩
  | [], _ :: _, h => h.elim
  | _ :: _, [], h => h.elim
theorem RepQ.of {K : PySem.W.Frag} {F : Hp} {κ : Type} : ∀ {kvs : List (κ × V)} {qs : List (κ × D)}, kvs.map (·.1) = qs.map (·.1) → RepL K F (kvs.map (·.2)) (qs.map (·.2)) → RepQ K F kvs qs
  | [], [], _, _ => trivial
  | (x, v) :: r, (y, d) :: t, h1, h2 => by
    simp only [List.map_cons, List.cons.injEq] at h1
    cases h2 with
    | cons a b => exact ⟨h1.1, a, RepQ.of h1.2 b⟩
  | [], _ :: _, h, _ => by cases h
  | _ :: _, [], h, _ => by cases h
/-- what a name of one's own may hold besides lists -/
inductive OB where
  | dk (qs : List (Key × D)) | dt (qs : List (List Key × D)) | ins (c : Str) (qs : List (Str × D))
def RepO (K : PySem.W.Frag) (F : Hp) : HO → OB → Prop
  | .dK kvs, .dk qs => RepQ K F kvs qs
  | .dT kvs, .dt qs => RepQ K F kvs qs
  | .ins C _ fs, .ins c qs => PySem.W.nsIn K mainGlobals c = some (some (.ref C)) ∧ RepQ K F fs qs
  | _, _ => False
theorem RepO.mono {K : PySem.W.Frag} {F F' : Hp} (s : Same F F') {o : HO} {b : OB} (h : RepO K F o b) : RepO K F' o b := by
  cases o <;> cases b <;> first | exact RepQ.mono s h | exact ⟨h.1, RepQ.mono s h.2⟩ | exact h.elim
def OB.frz : OB → D
  | .dk qs => .dk (qs.map (·.1)) (qs.map (·.2))
  | .dt qs => .dt (qs.map (·.1)) (qs.map (·.2))
  | .ins c qs => .ob c (qs.map (·.1)) (qs.map (·.2))
theorem RepO.rep {K : PySem.W.Frag} {F F' : Hp} {o : HO} {b : OB} {a : Addr} (h : RepO K F o b) (s : Same F F') (e : F' a = some o) : RepD K F' (.ref a) b.frz := by
  cases o <;> cases b <;> first | exact h.elim | skip
  · exact .dk e (RepQ.parts h).1 ((RepQ.parts h).2.mono s)
  · exact .dt e (RepQ.parts h).1 ((RepQ.parts h).2.mono s)
  · exact .ob h.1 e (RepQ.parts h.2).1 ((RepQ.parts h.2).2.mono s)
/-! ### the frame's entries -/
inductive Ent where
  | un | dat (d : D) | own (ds : List D) | io (ds : List D) | xc | od (b : OB) | ib (b : OB)
def Ent.mut : Ent → Bool
  | .own _ => true | .io _ => true | .od _ => true | .ib _ => true | _ => false
structure Ct where
  F0 : Hp
  H0 : Hp
  A : Nat → Option Addr
  xa : Option Addr
def noA : Nat → Option Addr := fun _ => none
def oneA (l : Addr) : Nat → Option Addr := fun j => if j = 0 then some l else none
theorem oneA_ne {l b : Addr} (n : b ≠ l) (j : Nat) : oneA l j ≠ some b := fun z => by
  unfold oneA at z
  split at z
  · cases z; exact n rfl
  · cases z
def EntOk (K : PySem.W.Frag) (C : Ct) (F H : Hp) (i : Nat) (s : Option (Option V)) : Ent → Prop
  | .un => True
  | .xc => ∃ a, C.xa = some a ∧ s = some (some (.ref a))
  | .dat d => ∃ v, s = some (some v) ∧ RepD K F v d
  | .own ds => ∃ l vs, s = some (some (.ref l)) ∧ H l = some (.lst vs) ∧ F l = none ∧ RepL K F vs ds ∧ C.H0 l = none
  | .io ds => ∃ l vs, s = some (some (.ref l)) ∧ H l = some (.lst vs) ∧ F l = none ∧ RepL K F vs ds ∧ C.A i = some l
  | .od b => ∃ l o, s = some (some (.ref l)) ∧ H l = some o ∧ F l = none ∧ RepO K F o b ∧ C.H0 l = none
  | .ib b => ∃ l o, s = some (some (.ref l)) ∧ H l = some o ∧ F l = none ∧ RepO K F o b ∧ C.A i = some l
structure Rep (K : PySem.W.Frag) (C : Ct) (F H : Hp) (σ : St) (ε : List Ent) : Prop where
  fh : Same F H
  ff : Same C.F0 F
  old : ∀ b, C.H0 b ≠ none → F b = C.F0 b
  keep : ∀ b o, C.H0 b = some o → (∀ j, C.A j ≠ some b) → H b = some o
  tr : ∀ b, C.H0 b ≠ none → H b ≠ none
  len : σ.length = ε.length
  ent : ∀ (i : Nat) (e : Ent), ε[i]? = some e → EntOk K C F H i σ[i]? e
  dis : ∀ (i j : Nat) (l : Addr) (e e' : Ent), σ[i]? = some (some (.ref l)) → σ[j]? = some (some (.ref l)) → ε[i]? = some e → ε[j]? = some e' → e.mut = true → e'.mut = true → i = j

section
variable {K : PySem.W.Frag} {C : Ct} {F H F' H' : Hp} {σ : St} {ε : List Ent}
/-- what changes nothing that is known -/
theorem Rep.step (R : Rep K C F H σ ε) (s : Ste F H F' H') : Rep K C F' H' σ ε where
  fh := s.fh
  ff := R.ff.trans s.ff
  old := fun b h => (s.old b (R.tr b h)).trans (R.old b h)
  keep := fun b o h n => s.hh b o (R.keep b o h n)
  tr := fun b h => Same.some s.hh (R.tr b h)
  len := R.len
  ent := fun i e he => by
    have q := R.ent i e he
    cases e with
    | un => trivial
    | xc => exact q
    | dat d => obtain ⟨v, a, b⟩ := q; exact ⟨v, a, b.mono s.ff⟩
    | own ds =>
      obtain ⟨l, vs, a, b, c, d, e⟩ := q
      exact ⟨l, vs, a, s.hh _ _ b, (s.old l (by rw [b]; exact fun z => by cases z)).trans c, d.mono s.ff, e⟩
    | io ds =>
      obtain ⟨l, vs, a, b, c, d, e⟩ := q
      exact ⟨l, vs, a, s.hh _ _ b, (s.old l (by rw [b]; exact fun z => by cases z)).trans c, d.mono s.ff, e⟩
    | od ob =>
      obtain ⟨l, o, a, b, c, d, e⟩ := q
      exact ⟨l, o, a, s.hh _ _ b, (s.old l (by rw [b]; exact fun z => by cases z)).trans c, d.mono s.ff, e⟩
    | ib ob =>
      obtain ⟨l, o, a, b, c, d, e⟩ := q
      exact ⟨l, o, a, s.hh _ _ b, (s.old l (by rw [b]; exact fun z => by cases z)).trans c, d.mono s.ff, e⟩
  dis := R.dis
/-- a name is given data -/
theorem Rep.set (R : Rep K C F H σ ε) (i : Nat) {v : V} {d : D} (h : RepD K F v d) : Rep K C F H (σ.set i (some v)) (ε.set i (.dat d)) where
  fh := R.fh
  ff := R.ff
  old := R.old
  keep := R.keep
  tr := R.tr
  len := by rw [List.length_set, List.length_set]; exact R.len
  ent := fun j e he => by
    by_cases hj : i = j
    · subst hj
      have hl : i < ε.length := by
        have := (List.getElem?_eq_some_iff.mp he).1
        rwa [List.length_set] at this
      rw [List.getElem?_set_self hl] at he
      cases he
      exact ⟨v, by rw [List.getElem?_set_self (by rw [R.len]; exact hl)], h⟩
    · rw [List.getElem?_set_ne hj] at he
      rw [List.getElem?_set_ne hj]
      exact R.ent j e he
  dis := fun a b l e e' h1 h2 h3 h4 h5 h6 => by
    by_cases ha : i = a
    · subst ha
      have hl : i < ε.length := by
        have := (List.getElem?_eq_some_iff.mp h3).1
        rwa [List.length_set] at this
      rw [List.getElem?_set_self hl] at h3
      cases h3
      cases h5
    · by_cases hb : i = b
      · subst hb
        have hl : i < ε.length := by
          have := (List.getElem?_eq_some_iff.mp h4).1
          rwa [List.length_set] at this
        rw [List.getElem?_set_self hl] at h4
        cases h4
        cases h6
      · rw [List.getElem?_set_ne ha] at h1 h3
        rw [List.getElem?_set_ne hb] at h2 h4
        exact R.dis a b l e e' h1 h2 h3 h4 h5 h6
/-- an address that no mutable name holds -/
def Apart (σ : St) (ε : List Ent) (l : Addr) : Prop := ∀ (j : Nat) (e : Ent), σ[j]? = some (some (.ref l)) → ε[j]? = some e → e.mut = false
/-- a name is given a new list of its own -/
theorem Rep.setO (R : Rep K C F H σ ε) (i : Nat) {l : Addr} {vs : List V} {ds : List D} (h1 : H l = some (.lst vs)) (h2 : F l = none) (h3 : RepL K F vs ds) (h4 : C.H0 l = none) (h5 : Apart σ ε l) :
    Rep K C F H (σ.set i (some (.ref l))) (ε.set i (.own ds)) where
  fh := R.fh
  ff := R.ff
  old := R.old
  keep := R.keep
  tr := R.tr
  len := by rw [List.length_set, List.length_set]; exact R.len
  ent := fun j e he => by
    by_cases hj : i = j
    · subst hj
      have hl : i < ε.length := by
        have := (List.getElem?_eq_some_iff.mp he).1
        rwa [List.length_set] at this
      rw [List.getElem?_set_self hl] at he
      cases he
      exact ⟨l, vs, by rw [List.getElem?_set_self (by rw [R.len]; exact hl)], h1, h2, h3, h4⟩
    · rw [List.getElem?_set_ne hj] at he
      rw [List.getElem?_set_ne hj]
      exact R.ent j e he
  dis := fun a b m e e' g1 g2 g3 g4 g5 g6 => by
    by_cases ha : i = a
    · by_cases hb : i = b
      · exact ha.symm.trans hb
      · exfalso
        subst ha
        have hl : i < ε.length := by
          have := (List.getElem?_eq_some_iff.mp g3).1
          rwa [List.length_set] at this
        rw [List.getElem?_set_self (by rw [R.len]; exact hl)] at g1
        rw [List.getElem?_set_ne hb] at g2 g4
        cases g1
        rw [h5 b e' g2 g4] at g6
        cases g6
    · by_cases hb : i = b
      · exfalso
        subst hb
        have hl : i < ε.length := by
          have := (List.getElem?_eq_some_iff.mp g4).1
          rwa [List.length_set] at this
        rw [List.getElem?_set_self (by rw [R.len]; exact hl)] at g2
        rw [List.getElem?_set_ne ha] at g1 g3
        cases g2
        rw [h5 a e g1 g3] at g5
        cases g5
      · rw [List.getElem?_set_ne ha] at g1 g3
        rw [List.getElem?_set_ne hb] at g2 g4
        exact R.dis a b m e e' g1 g2 g3 g4 g5 g6
/-- a name is given a new object of its own -/
theorem Rep.setB (R : Rep K C F H σ ε) (i : Nat) {l : Addr} {o : HO} {b : OB} (h1 : H l = some o) (h2 : F l = none) (h3 : RepO K F o b) (h4 : C.H0 l = none) (h5 : Apart σ ε l) :
    Rep K C F H (σ.set i (some (.ref l))) (ε.set i (.od b)) where
  fh := R.fh
  ff := R.ff
  old := R.old
  keep := R.keep
  tr := R.tr
  len := by rw [List.length_set, List.length_set]; exact R.len
  ent := fun j e he => by
    by_cases hj : i = j
    · subst hj
      have hl : i < ε.length := by
        have := (List.getElem?_eq_some_iff.mp he).1
        rwa [List.length_set] at this
      rw [List.getElem?_set_self hl] at he
      cases he
      exact ⟨l, o, by rw [List.getElem?_set_self (by rw [R.len]; exact hl)], h1, h2, h3, h4⟩
    · rw [List.getElem?_set_ne hj] at he
      rw [List.getElem?_set_ne hj]
      exact R.ent j e he
  dis := fun a c m e e' g1 g2 g3 g4 g5 g6 => by
    by_cases ha : i = a
    · by_cases hb : i = c
      · exact ha.symm.trans hb
      · exfalso
        subst ha
        have hl : i < ε.length := by
          have := (List.getElem?_eq_some_iff.mp g3).1
          rwa [List.length_set] at this
        rw [List.getElem?_set_self (by rw [R.len]; exact hl)] at g1
        rw [List.getElem?_set_ne hb] at g2 g4
        cases g1
        rw [h5 c e' g2 g4] at g6
        cases g6
    · by_cases hb : i = c
      · exfalso
        subst hb
        have hl : i < ε.length := by
          have := (List.getElem?_eq_some_iff.mp g4).1
          rwa [List.length_set] at this
        rw [List.getElem?_set_self (by rw [R.len]; exact hl)] at g2
        rw [List.getElem?_set_ne ha] at g1 g3
        cases g2
        rw [h5 a e g1 g3] at g5
        cases g5
      · rw [List.getElem?_set_ne ha] at g1 g3
        rw [List.getElem?_set_ne hb] at g2 g4
        exact R.dis a c m e e' g1 g2 g3 g4 g5 g6
/-- the frozen heap takes in an address that no mutable name holds -/
theorem Rep.freeze (R : Rep K C F H σ ε) {l : Addr} {o : HO} (h1 : H l = some o) (h2 : F l = none) (h4 : C.H0 l = none) (h5 : Apart σ ε l) : Rep K C (upd F l o) H σ ε where
  fh := fun b x e => by
    by_cases hb : b = l
    · subst hb; rw [upd_same] at e; cases e; exact h1
    · rw [upd_ne hb] at e; exact R.fh b x e
  ff := R.ff.trans (same_upd h2)
  old := fun b h => by
    rw [upd_ne (show b ≠ l from fun z => h (by rw [z]; exact h4))]
    exact R.old b h
  keep := R.keep
  tr := R.tr
  len := R.len
  ent := fun i e he => by
    have q := R.ent i e he
    have s : Same F (upd F l o) := same_upd h2
    cases e with
    | un => trivial
    | xc => exact q
    | dat d => obtain ⟨v, a, b⟩ := q; exact ⟨v, a, b.mono s⟩
    | own ds =>
      obtain ⟨m, vs, a, b, c, d, e⟩ := q
      have ne : m ≠ l := fun z => by
        have := h5 i _ (z ▸ a) he
        cases this
      exact ⟨m, vs, a, b, by rw [upd_ne ne]; exact c, d.mono s, e⟩
    | io ds =>
      obtain ⟨m, vs, a, b, c, d, e⟩ := q
      have ne : m ≠ l := fun z => by
        have := h5 i _ (z ▸ a) he
        cases this
      exact ⟨m, vs, a, b, by rw [upd_ne ne]; exact c, d.mono s, e⟩
    | od ob =>
      obtain ⟨m, o2, a, b, c, d, e⟩ := q
      have ne : m ≠ l := fun z => by
        have := h5 i _ (z ▸ a) he
        cases this
      exact ⟨m, o2, a, b, by rw [upd_ne ne]; exact c, d.mono s, e⟩
    | ib ob =>
      obtain ⟨m, o2, a, b, c, d, e⟩ := q
      have ne : m ≠ l := fun z => by
        have := h5 i _ (z ▸ a) he
        cases this
      exact ⟨m, o2, a, b, by rw [upd_ne ne]; exact c, d.mono s, e⟩
  dis := R.dis
/-- a name's entry is forgotten, or weakened -/
theorem Rep.weak (R : Rep K C F H σ ε) (i : Nat) : Rep K C F H σ (ε.set i .un) where
  fh := R.fh
  ff := R.ff
  old := R.old
  keep := R.keep
  tr := R.tr
  len := by rw [List.length_set]; exact R.len
  ent := fun j e he => by
    by_cases hj : i = j
    · subst hj
      have hl : i < ε.length := by
        have := (List.getElem?_eq_some_iff.mp he).1
        rwa [List.length_set] at this
      rw [List.getElem?_set_self hl] at he
      cases he
      trivial
    · rw [List.getElem?_set_ne hj] at he
      exact R.ent j e he
  dis := fun a b l e e' h1 h2 h3 h4 h5 h6 => by
    by_cases ha : i = a
    · subst ha
      have hl : i < ε.length := by
        have := (List.getElem?_eq_some_iff.mp h3).1
        rwa [List.length_set] at this
      rw [List.getElem?_set_self hl] at h3
      cases h3
      cases h5
    · by_cases hb : i = b
      · subst hb
        have hl : i < ε.length := by
          have := (List.getElem?_eq_some_iff.mp h4).1
          rwa [List.length_set] at this
        rw [List.getElem?_set_self hl] at h4
        cases h4
        cases h6
      · rw [List.getElem?_set_ne ha] at h3
        rw [List.getElem?_set_ne hb] at h4
        exact R.dis a b l e e' h1 h2 h3 h4 h5 h6
/-- a list of one's own is frozen where it stands -/
theorem Rep.freezeAt (R : Rep K C F H σ ε) {i : Nat} {ds : List D} (he : ε[i]? = some (.own ds)) :
    ∃ l vs, σ[i]? = some (some (.ref l)) ∧ F l = none ∧ RepL K F vs ds ∧ Rep K C (upd F l (.lst vs)) H σ (ε.set i (.dat (.lst ds))) := by
  obtain ⟨l, vs, a, b, c, d, e⟩ := R.ent i _ he
  have hl : i < ε.length := (List.getElem?_eq_some_iff.mp he).1
  have ap : Apart σ (ε.set i .un) l := fun j e' hj hj' => by
    by_cases hi : i = j
    · subst hi
      rw [List.getElem?_set_self hl] at hj'
      cases hj'
      rfl
    · rw [List.getElem?_set_ne hi] at hj'
      cases hm : e'.mut with
      | false => rfl
      | true => exact absurd (R.dis i j l _ e' a hj he hj' rfl hm) hi
  refine ⟨l, vs, a, c, d, ?_⟩
  have R1 := (R.weak i).freeze b c e ap
  have R2 := R1.set i (v := .ref l) (d := .lst ds) (.lst upd_same (d.mono (same_upd c)))
  have e1 : (ε.set i .un).set i (.dat (.lst ds)) = ε.set i (.dat (.lst ds)) := by rw [List.set_set]
  have e2 : σ.set i (some (.ref l)) = σ := by
    apply List.ext_getElem?
    intro j
    by_cases hj : i = j
    · subst hj
      rw [List.getElem?_set_self (by rw [R.len]; exact hl), a]
    · rw [List.getElem?_set_ne hj]
  rw [e1, e2] at R2
  exact R2
/-- an object of one's own is frozen where it stands -/
theorem Rep.freezeB (R : Rep K C F H σ ε) {i : Nat} {ob : OB} (he : ε[i]? = some (.od ob)) :
    ∃ l o, σ[i]? = some (some (.ref l)) ∧ F l = none ∧ RepO K F o ob ∧ Rep K C (upd F l o) H σ (ε.set i (.dat ob.frz)) := by
  obtain ⟨l, o, a, b, c, d, e⟩ := R.ent i _ he
  have hl : i < ε.length := (List.getElem?_eq_some_iff.mp he).1
  have ap : Apart σ (ε.set i .un) l := fun j e' hj hj' => by
    by_cases hi : i = j
    · subst hi
      rw [List.getElem?_set_self hl] at hj'
      cases hj'
      rfl
    · rw [List.getElem?_set_ne hi] at hj'
      cases hm : e'.mut with
      | false => rfl
      | true => exact absurd (R.dis i j l _ e' a hj he hj' rfl hm) hi
  refine ⟨l, o, a, c, d, ?_⟩
  have R1 := (R.weak i).freeze b c e ap
  have R2 := R1.set i (v := .ref l) (d := ob.frz) (d.rep (same_upd c) upd_same)
  have e1 : (ε.set i .un).set i (.dat ob.frz) = ε.set i (.dat ob.frz) := by rw [List.set_set]
  have e2 : σ.set i (some (.ref l)) = σ := by
    apply List.ext_getElem?
    intro j
    by_cases hj : i = j
    · subst hj
      rw [List.getElem?_set_self (by rw [R.len]; exact hl), a]
    · rw [List.getElem?_set_ne hj]
  rw [e1, e2] at R2
  exact R2
/-- a mutable list changes -/
theorem Rep.change (R : Rep K C F H σ ε) {i : Nat} {e : Ent} {l : Addr} {vs : List V} {ds : List D} (he : ε[i]? = some e) (hm : e.mut = true) (a : σ[i]? = some (some (.ref l))) (hr : RepL K F vs ds)
    {e' : Ent} (hk : (∃ z, e = .own z ∧ e' = .own ds) ∨ ∃ z, e = .io z ∧ e' = .io ds) : Rep K C F (upd H l (.lst vs)) σ (ε.set i e') := by
  have hl : i < ε.length := (List.getElem?_eq_some_iff.mp he).1
  have fl : F l = none := by
    have q := R.ent i e he
    rcases hk with ⟨z, rfl, _⟩ | ⟨z, rfl, _⟩
    · obtain ⟨m, _, a', _, c, _⟩ := q
      rw [a] at a'; cases a'; exact c
    · obtain ⟨m, _, a', _, c, _⟩ := q
      rw [a] at a'; cases a'; exact c
  refine ⟨fun b x q => ?_, R.ff, R.old, fun b o q n => ?_, fun b q => ?_, by rw [List.length_set]; exact R.len, fun j e2 h2 => ?_, fun p q m x y h1 h2 h3 h4 h5 h6 => ?_⟩
  · rw [upd_ne (fun z => by rw [z, fl] at q; cases q)]
    exact R.fh b x q
  · have ne : b ≠ l := by
      rintro rfl
      have q2 := R.ent i e he
      rcases hk with ⟨z, rfl, _⟩ | ⟨z, rfl, _⟩
      · obtain ⟨m, _, a', _, c, _, g⟩ := q2
        rw [a] at a'; cases a'; rw [q] at g; cases g
      · obtain ⟨m, _, a', _, c, _, g⟩ := q2
        rw [a] at a'; cases a'; exact n _ g
    rw [upd_ne ne]
    exact R.keep b o q n
  · by_cases hb : b = l
    · subst hb; rw [upd_same]; exact fun z => by cases z
    · rw [upd_ne hb]; exact R.tr b q
  · by_cases hj : i = j
    · subst hj
      rw [List.getElem?_set_self hl] at h2
      cases h2
      have q2 := R.ent i e he
      rcases hk with ⟨z, rfl, rfl⟩ | ⟨z, rfl, rfl⟩
      · obtain ⟨m, _, a', _, c, _, g⟩ := q2
        rw [a] at a'; cases a'
        exact ⟨l, vs, a, upd_same, c, hr, g⟩
      · obtain ⟨m, _, a', _, c, _, g⟩ := q2
        rw [a] at a'; cases a'
        exact ⟨l, vs, a, upd_same, c, hr, g⟩
    · rw [List.getElem?_set_ne hj] at h2
      have q2 := R.ent j e2 h2
      cases e2 with
      | un => trivial
      | xc => exact q2
      | dat d => exact q2
      | own zs =>
        obtain ⟨m, ws, a', b', c', d', g'⟩ := q2
        have ne : m ≠ l := fun z => hj (R.dis i j l e _ a (z ▸ a') he h2 hm rfl)
        exact ⟨m, ws, a', by rw [upd_ne ne]; exact b', c', d', g'⟩
      | io zs =>
        obtain ⟨m, ws, a', b', c', d', g'⟩ := q2
        have ne : m ≠ l := fun z => hj (R.dis i j l e _ a (z ▸ a') he h2 hm rfl)
        exact ⟨m, ws, a', by rw [upd_ne ne]; exact b', c', d', g'⟩
      | od ob =>
        obtain ⟨m, ws, a', b', c', d', g'⟩ := q2
        have ne : m ≠ l := fun z => hj (R.dis i j l e _ a (z ▸ a') he h2 hm rfl)
        exact ⟨m, ws, a', by rw [upd_ne ne]; exact b', c', d', g'⟩
      | ib ob =>
        obtain ⟨m, ws, a', b', c', d', g'⟩ := q2
        have ne : m ≠ l := fun z => hj (R.dis i j l e _ a (z ▸ a') he h2 hm rfl)
        exact ⟨m, ws, a', by rw [upd_ne ne]; exact b', c', d', g'⟩
  · have key : ∀ (j : Nat) (x : Ent), (ε.set i e')[j]? = some x → x.mut = true → ∃ y, ε[j]? = some y ∧ y.mut = true := fun j x hx hx' => by
      by_cases hj : i = j
      · subst hj; exact ⟨e, he, hm⟩
      · rw [List.getElem?_set_ne hj] at hx; exact ⟨x, hx, hx'⟩
    obtain ⟨x1, k1, k2⟩ := key p x h3 h5
    obtain ⟨x2, k3, k4⟩ := key q y h4 h6
    exact R.dis p q m x1 x2 h1 h2 k1 k3 k2 k4
/-- an object of one's own changes -/
theorem Rep.changeB (R : Rep K C F H σ ε) {i : Nat} {e : Ent} {l : Addr} {o : HO} {b0 b1 : OB} (he : ε[i]? = some e) (hm : e.mut = true) (a : σ[i]? = some (some (.ref l))) (hr : RepO K F o b1)
    {e' : Ent} (hk : (e = .od b0 ∧ e' = .od b1) ∨ (e = .ib b0 ∧ e' = .ib b1)) : Rep K C F (upd H l o) σ (ε.set i e') := by
  have hl : i < ε.length := (List.getElem?_eq_some_iff.mp he).1
  have fl : F l = none := by
    have q := R.ent i e he
    rcases hk with ⟨rfl, _⟩ | ⟨rfl, _⟩
    · obtain ⟨m, _, a', _, c, _⟩ := q
      rw [a] at a'; cases a'; exact c
    · obtain ⟨m, _, a', _, c, _⟩ := q
      rw [a] at a'; cases a'; exact c
  refine ⟨fun b x q => ?_, R.ff, R.old, fun b o2 q n => ?_, fun b q => ?_, by rw [List.length_set]; exact R.len, fun j e2 h2 => ?_, fun p q m x y h1 h2 h3 h4 h5 h6 => ?_⟩
  · rw [upd_ne (fun z => by rw [z, fl] at q; cases q)]
    exact R.fh b x q
  · have ne : b ≠ l := by
      rintro rfl
      have q2 := R.ent i e he
      rcases hk with ⟨rfl, _⟩ | ⟨rfl, _⟩
      · obtain ⟨m, _, a', _, c, _, g⟩ := q2
        rw [a] at a'; cases a'; rw [q] at g; cases g
      · obtain ⟨m, _, a', _, c, _, g⟩ := q2
        rw [a] at a'; cases a'; exact n _ g
    rw [upd_ne ne]
    exact R.keep b o2 q n
  · by_cases hb : b = l
    · subst hb; rw [upd_same]; exact fun z => by cases z
    · rw [upd_ne hb]; exact R.tr b q
  · by_cases hj : i = j
    · subst hj
      rw [List.getElem?_set_self hl] at h2
      cases h2
      have q2 := R.ent i e he
      rcases hk with ⟨rfl, rfl⟩ | ⟨rfl, rfl⟩
      · obtain ⟨m, _, a', _, c, _, g⟩ := q2
        rw [a] at a'; cases a'
        exact ⟨l, o, a, upd_same, c, hr, g⟩
      · obtain ⟨m, _, a', _, c, _, g⟩ := q2
        rw [a] at a'; cases a'
        exact ⟨l, o, a, upd_same, c, hr, g⟩
    · rw [List.getElem?_set_ne hj] at h2
      have q2 := R.ent j e2 h2
      cases e2 with
      | un => trivial
      | xc => exact q2
      | dat d => exact q2
      | own zs =>
        obtain ⟨m, ws, a', b', c', d', g'⟩ := q2
        have ne : m ≠ l := fun z => hj (R.dis i j l e _ a (z ▸ a') he h2 hm rfl)
        exact ⟨m, ws, a', by rw [upd_ne ne]; exact b', c', d', g'⟩
      | io zs =>
        obtain ⟨m, ws, a', b', c', d', g'⟩ := q2
        have ne : m ≠ l := fun z => hj (R.dis i j l e _ a (z ▸ a') he h2 hm rfl)
        exact ⟨m, ws, a', by rw [upd_ne ne]; exact b', c', d', g'⟩
      | od ob =>
        obtain ⟨m, ws, a', b', c', d', g'⟩ := q2
        have ne : m ≠ l := fun z => hj (R.dis i j l e _ a (z ▸ a') he h2 hm rfl)
        exact ⟨m, ws, a', by rw [upd_ne ne]; exact b', c', d', g'⟩
      | ib ob =>
        obtain ⟨m, ws, a', b', c', d', g'⟩ := q2
        have ne : m ≠ l := fun z => hj (R.dis i j l e _ a (z ▸ a') he h2 hm rfl)
        exact ⟨m, ws, a', by rw [upd_ne ne]; exact b', c', d', g'⟩
  · have key : ∀ (j : Nat) (x : Ent), (ε.set i e')[j]? = some x → x.mut = true → ∃ y, ε[j]? = some y ∧ y.mut = true := fun j x hx hx' => by
      by_cases hj : i = j
      · subst hj; exact ⟨e, he, hm⟩
      · rw [List.getElem?_set_ne hj] at hx; exact ⟨x, hx, hx'⟩
    obtain ⟨x1, k1, k2⟩ := key p x h3 h5
    obtain ⟨x2, k3, k4⟩ := key q y h4 h6
    exact R.dis p q m x1 x2 h1 h2 k1 k3 k2 k4
end
end DL

set_option Elab.async false
set_option linter.all false
set_option maxRecDepth 100000
namespace DL
open PySem PySem.Spec L2

/-! ### results -/
structure Xn where
  cls : String
  fs : List (Str × D)
inductive Res (α : Type) where
  | ok (a : α) (ε : List Ent)
  | ex (x : Xn) (ε : List Ent)
abbrev Mo (α : Type) := List Ent → Option (Res α)
def bnd {α β : Type} (f : Mo α) (g : α → Mo β) : Mo β := fun ε => match f ε with
  | some (.ok a ε') => g a ε'
  | some (.ex x ε') => some (.ex x ε')
  | none => none
def pur {α : Type} (a : α) : Mo α := fun ε => some (.ok a ε)
def lft {α : Type} (o : Option α) : Mo α := fun ε => match o with
  | some a => some (.ok a ε)
  | none => none
def Good {α : Type} (r : Option (Res α)) (p : α → List Ent → Prop) (q : Xn → List Ent → Prop) : Prop := match r with
  | some (.ok a ε) => p a ε
  | some (.ex x ε) => q x ε
  | none => False
theorem Good.imp {α : Type} {r : Option (Res α)} {p p' : α → List Ent → Prop} {q q' : Xn → List Ent → Prop} (h : Good r p q) (hp : ∀ a e, p a e → p' a e) (hq : ∀ x e, q x e → q' x e) : Good r p' q' := by
  cases r with
  | none => exact h
  | some r => cases r with
    | ok a e => exact hp a e h
    | ex x e => exact hq x e h
theorem Good.bind {α β : Type} {f : Mo α} {g : α → Mo β} {ε : List Ent} {p : β → List Ent → Prop} {q : Xn → List Ent → Prop} (h : Good (bnd f g ε) p q) : Good (f ε) (fun a ε' => Good (g a ε') p q) q := by
  unfold bnd at h
  cases e : f ε with
  | none => rw [e] at h; exact h
  | some r =>
    rw [e] at h
    cases r with
    | ok a e => exact h
    | ex x e => exact h

/-- the fields of an exception -/
def RepF (K : PySem.W.Frag) (F : Hp) : List (Str × V) → List (Str × D) → Prop
  | [], [] => True
  | (x, v) :: r, (y, d) :: s => x = y ∧ RepD K F v d ∧ RepF K F r s
  | _, _ => False
structure RepX (K : PySem.W.Frag) (F H : Hp) (x : Xn) (c : Value) (od : Option Addr) : Prop where
  cls : ∃ a, c = .ref a ∧ PySem.W.nsIn K mainGlobals (Str.ofString x.cls) = some (some (.ref a))
  fs : (od = none ∧ x.fs = []) ∨ ∃ d vs, od = some d ∧ H d = some (.xd vs) ∧ RepF K F vs x.fs

/-- what an expression does to the heaps: what no mutable name holds stays -/
structure Stp (σ : St) (ε ε' : List Ent) (F H F' H' : Hp) : Prop where
  ff : Same F F'
  hh : ∀ b o, H b = some o → Apart σ ε b → H' b = some o
  old : ∀ b, H b ≠ none → Apart σ ε b → F' b = F b
  ap : ∀ b, Apart σ ε b → Apart σ ε' b
  tr : ∀ b, H b ≠ none → H' b ≠ none
section
variable {σ : St} {ε ε1 ε2 : List Ent} {F H F1 H1 F2 H2 : Hp}
theorem Stp.refl : Stp σ ε ε F H F H := ⟨Same.refl F, fun _ _ h _ => h, fun _ _ _ => rfl, fun _ h => h, fun _ h => h⟩
theorem Stp.trans (a : Stp σ ε ε1 F H F1 H1) (b : Stp σ ε1 ε2 F1 H1 F2 H2) : Stp σ ε ε2 F H F2 H2 :=
  ⟨a.ff.trans b.ff, fun c o h p => b.hh c o (a.hh c o h p) (a.ap c p), fun c h p => by
    cases q : H c with
    | none => exact absurd q h
    | some o => exact (b.old c (by rw [a.hh c o q p]; exact fun z => by cases z) (a.ap c p)).trans (a.old c h p), fun c p => b.ap c (a.ap c p), fun c h => b.tr c (a.tr c h)⟩
theorem Ste.stp (s : Ste F H F1 H1) : Stp σ ε ε F H F1 H1 := ⟨s.ff, fun b o h _ => s.hh b o h, fun b h _ => s.old b h, fun _ h => h, fun _ h => Same.some s.hh h⟩
end
section
variable (K : PySem.W.Frag) (C : Ct) (W : WX)
def OkE (F H : Hp) (σ : St) (ε : List Ent) (Q : VK) : D → List Ent → Prop := fun d ε' => ∀ v F' H', Rep K C F' H' σ ε' → Stp σ ε ε' F H F' H' → RepD K F' v d → Q v H'
def ExP (F H : Hp) (σ : St) (ε : List Ent) : Xn → List Ent → Prop := fun x ε' => ∀ c od F' H', Rep K C F' H' σ ε' → Stp σ ε ε' F H F' H' → RepX K F' H' x c od → W c od σ H'
def OkA (F H : Hp) (σ : St) (ε : List Ent) (Q : List V → Hp → Prop) : List D → List Ent → Prop := fun ds ε' => ∀ vs F' H', Rep K C F' H' σ ε' → Stp σ ε ε' F H F' H' → RepL K F' vs ds → Q vs H'
def OkB (F H : Hp) (σ : St) (ε : List Ent) (Q : Bool → Hp → Prop) : Bool → List Ent → Prop := fun b ε' => ∀ F' H', Rep K C F' H' σ ε' → Stp σ ε ε' F H F' H' → Q b H'
def SdE (te : TE) (f : Mo D) : Prop := ∀ F H σ ε Q, Rep K C F H σ ε → Good (f ε) (OkE K C F H σ ε Q) (ExP K C W F H σ ε) → te σ H Q
def SdT (te : TT) (f : Mo Bool) : Prop := ∀ F H σ ε Q, Rep K C F H σ ε → Good (f ε) (OkB K C F H σ ε Q) (ExP K C W F H σ ε) → te σ H Q
def SdA (ta : TA) (f : Mo (List D)) : Prop := ∀ F H σ ε Q, Rep K C F H σ ε → Good (f ε) (OkA K C F H σ ε Q) (ExP K C W F H σ ε) → ta σ H Q
end
theorem ExP.imp {K : PySem.W.Frag} {C : Ct} {W : WX} {F H F' H' : Hp} {σ : St} {ε ε' : List Ent} (s : Stp σ ε ε' F H F' H') {x : Xn} {e : List Ent} (h : ExP K C W F H σ ε x e) : ExP K C W F' H' σ ε' x e :=
  fun c od F2 H2 R s2 r => h c od F2 H2 R (s.trans s2) r

def EvD (X : Cx) (C : Ct) (W : WX) (e : Expr) (f : Mo D) : Prop := ∃ te, PE X e te ∧ SdE X.K C W te f
def TeD (X : Cx) (C : Ct) (W : WX) (e : Expr) (f : Mo Bool) : Prop := ∃ te, PT X e te ∧ SdT X.K C W te f
def TwD (X : Cx) (C : Ct) (W : WX) (e : Expr) (f : Mo Bool) : Prop := ∃ te, PW X e te ∧ SdT X.K C W te f
def EaD (X : Cx) (C : Ct) (W : WX) (es : List Expr) (f : Mo (List D)) : Prop := ∃ te, PA X es te ∧ SdA X.K C W te f

section
variable {X : Cx} {C : Ct} {W : WX} {a b e : Expr} {pos : Pos} {f g : Mo D}

/-! ### names, constants -/
def mVar (i : Nat) : Mo D := fun ε => match ε[i]? with
  | some (.dat d) => some (.ok d ε)
  | some (.own ds) => some (.ok (.lst ds) (ε.set i (.dat (.lst ds))))
  | some (.od b) => some (.ok b.frz (ε.set i (.dat b.frz)))
  | _ => none
theorem ev_var {e : Expr} (i : Nat) (h : PE X e (tVar i)) : EvD X C W e (mVar i) := by
  refine ⟨_, h, fun F H σ ε Q R q => ?_⟩
  unfold mVar at q
  cases he : ε[i]? with
  | none => rw [he] at q; exact q.elim
  | some z =>
    rw [he] at q
    cases z with
    | un => exact q.elim
    | io ds => exact q.elim
    | xc => exact q.elim
    | ib ob => exact q.elim
    | dat d =>
      obtain ⟨v, h1, h2⟩ := R.ent i _ he
      exact ⟨v, h1, q v F H R Stp.refl h2⟩
    | own ds =>
      obtain ⟨l, vs, h1, h2, h3, R'⟩ := R.freezeAt he
      have st : Stp σ ε (ε.set i (.dat (.lst ds))) F H (upd F l (.lst vs)) H := ⟨same_upd h2, fun _ _ h _ => h, fun b _ p => upd_ne (fun z => by
          have := p i _ (by rw [z]; exact h1) he
          cases this), fun b p j e hj hj' => by
        by_cases hij : i = j
        · subst hij
          rw [List.getElem?_set_self (List.getElem?_eq_some_iff.mp he).1] at hj'
          cases hj'; rfl
        · rw [List.getElem?_set_ne hij] at hj'
          exact p j e hj hj', fun _ h => h⟩
      exact ⟨.ref l, h1, q _ _ H R' st (.lst upd_same (h3.mono (same_upd h2)))⟩
    | od ob =>
      obtain ⟨l, o, h1, h2, h3, R'⟩ := R.freezeB he
      have st : Stp σ ε (ε.set i (.dat ob.frz)) F H (upd F l o) H := ⟨same_upd h2, fun _ _ h _ => h, fun b _ p => upd_ne (fun z => by
          have := p i _ (by rw [z]; exact h1) he
          cases this), fun b p j e hj hj' => by
        by_cases hij : i = j
        · subst hij
          rw [List.getElem?_set_self (List.getElem?_eq_some_iff.mp he).1] at hj'
          cases hj'; rfl
        · rw [List.getElem?_set_ne hij] at hj'
          exact p j e hj hj', fun _ h => h⟩
      exact ⟨.ref l, h1, q _ _ H R' st (h3.rep (same_upd h2) upd_same)⟩
theorem ev_c {v : V} {d : D} {e : Expr} (h : PE X e (tC v)) (r : ∀ F : Hp, Same C.F0 F → RepD X.K F v d) : EvD X C W e (pur d) :=
  ⟨_, h, fun F H σ ε Q R q => q v F H R Stp.refl (r F R.ff)⟩
theorem ev_int {i : Int} {j : Nat} : EvD X C W (.Constant (.int i) j pos) (pur (.int i)) := ev_c pe_int fun _ _ => .int i
theorem ev_bl {i : Bool} {j : Nat} : EvD X C W (.Constant (.bool i) j pos) (pur (.bl i)) := ev_c pe_bl fun _ _ => .bl i
theorem ev_non {j : Nat} : EvD X C W (.Constant .none j pos) (pur .non) := ev_c pe_non fun _ _ => .non
theorem ev_str {x : String} {j : Nat} : EvD X C W (.Constant (.str x) j pos) (pur (.str x)) := ev_c pe_str fun _ _ => .str _

/-! ### operators by values -/
def VOp (K : PySem.W.Frag) (r : R2) (g : D → D → Option D) : Prop := ∀ F H x y a b c Q, Same F H → RepD K F x a → RepD K F y b → g a b = some c → (∀ v F' H', Ste F H F' H' → RepD K F' v c → Q v H') → r x y H Q
def mOp (g : D → D → Option D) (f1 f2 : Mo D) : Mo D := bnd f1 fun a => bnd f2 fun b => lft (g a b)
theorem sd_op {K : PySem.W.Frag} {r : R2} {h : D → D → Option D} {ta tb : TE} (hv : VOp K r h) (ha : SdE K C W ta f) (hb : SdE K C W tb g) : SdE K C W (tOp r ta tb) (mOp h f g) := fun F H σ ε Q R q => by
  refine ha F H σ ε _ R (q.bind.imp (fun d e q1 v F1 H1 R1 s1 r1 => ?_) fun x e z => z)
  refine hb F1 H1 σ e _ R1 (q1.bind.imp (fun d2 e2 q2 v2 F2 H2 R2 s2 r2 => ?_) fun x e z => z.imp s1)
  unfold lft at q2
  cases hc : h d d2 with
  | none => rw [hc] at q2; exact q2.elim
  | some c =>
    rw [hc] at q2
    exact hv F2 H2 v v2 d d2 c Q R2.fh (r1.mono s2.ff) r2 hc fun w F3 H3 st rw' => q2 w F3 H3 (R2.step st) ((s1.trans s2).trans st.stp) rw'
theorem ev_op {op : Operator} {r : R2} {h : D → D → Option D} (ho : OpR X (binaryOp op) r) (hv : VOp X.K r h) (ha : EvD X C W a f) (hb : EvD X C W b g) : EvD X C W (.BinOp a op b pos) (mOp h f g) := by
  obtain ⟨ta, pa, sa⟩ := ha
  obtain ⟨tb, pb, sb⟩ := hb
  exact ⟨_, pe_op ho pa pb, sd_op hv sa sb⟩
theorem ev_cmp {op : CmpOp} {r : R2} {h : D → D → Option D} (ho : OpR X (compareOp op) r) (hm : behindInMarks op b = false) (hv : VOp X.K r h) (ha : EvD X C W a f) (hb : EvD X C W b g) : EvD X C W (.Compare a [op] [b] pos) (mOp h f g) := by
  obtain ⟨ta, pa, sa⟩ := ha
  obtain ⟨tb, pb, sb⟩ := hb
  exact ⟨_, pe_cmpR ho pa pb hm, sd_op hv sa sb⟩
theorem ev_ix {r : R2} {h : D → D → Option D} (ho : IxR X r) (hm : PlainIx b) (hv : VOp X.K r h) (ha : EvD X C W a f) (hb : EvD X C W b g) (hp : ∀ ta tb, PE X a ta → PE X b tb → PE X e (tOp r ta tb)) : EvD X C W e (mOp h f g) := by
  obtain ⟨ta, pa, sa⟩ := ha
  obtain ⟨tb, pb, sb⟩ := hb
  exact ⟨_, hp _ _ pa pb, sd_op hv sa sb⟩
def VUn (K : PySem.W.Frag) (r : V → Hp → VK → Prop) (g : D → Option D) : Prop := ∀ F H x a c Q, Same F H → RepD K F x a → g a = some c → (∀ v F' H', Ste F H F' H' → RepD K F' v c → Q v H') → r x H Q
def mUn (g : D → Option D) (f1 : Mo D) : Mo D := bnd f1 fun a => lft (g a)
theorem ev_un {op : UnaryOp} {r : V → Hp → VK → Prop} {h : D → Option D} (ho : UnR X (unaryOp op) r) (hv : VUn X.K r h) (ha : EvD X C W a f) : EvD X C W (.UnaryOp op a pos) (mUn h f) := by
  obtain ⟨ta, pa, sa⟩ := ha
  refine ⟨_, pe_un ho pa, fun F H σ ε Q R q => ?_⟩
  refine sa F H σ ε _ R (q.bind.imp (fun d e q1 v F1 H1 R1 s1 r1 => ?_) fun x e z => z)
  unfold lft at q1
  cases hc : h d with
  | none => rw [hc] at q1; exact q1.elim
  | some c =>
    rw [hc] at q1
    exact hv F1 H1 v d c Q R1.fh r1 hc fun w F3 H3 st rw' => q1 w F3 H3 (R1.step st) (s1.trans st.stp) rw'

/-! ### ints -/
def gI (p : Int → Int → Bool) (h : Int → Int → D) : D → D → Option D
  | .int i, .int j => if p i j then some (h i j) else none
  | _, _ => none
theorem rep_int {K : PySem.W.Frag} {F : Hp} {v : V} {i : Int} (h : RepD K F v (.int i)) : v = .int i := by cases h; rfl
theorem rep_bl {K : PySem.W.Frag} {F : Hp} {v : V} {i : Bool} (h : RepD K F v (.bl i)) : v = .bl i := by cases h; rfl
theorem rep_str {K : PySem.W.Frag} {F : Hp} {v : V} {i : Str} (h : RepD K F v (.str i)) : v = .str i := by cases h; rfl
theorem rep_non {K : PySem.W.Frag} {F : Hp} {v : V} (h : RepD K F v .non) : v = .non := by cases h; rfl
theorem vop_I {K : PySem.W.Frag} {cond : Int → Int → Prop} {p : Int → Int → Bool} {gv : Int → Int → V} {gd : Int → Int → D} (hp : ∀ i j, p i j = true → cond i j) (hr : ∀ (F : Hp) i j, RepD K F (gv i j) (gd i j)) : VOp K (rI cond gv) (gI p gd) := by
  intro F H x y a b c Q s ra rb hg q
  unfold gI at hg
  split at hg
  · rename_i i j
    split at hg
    · rename_i hpq
      cases hg
      exact ⟨i, j, rep_int ra, rep_int rb, hp i j hpq, q _ F H (Ste.refl s) (hr F i j)⟩
    · cases hg
  · cases hg
theorem vop_I0 {K : PySem.W.Frag} {gv : Int → Int → V} {gd : Int → Int → D} (hr : ∀ (F : Hp) i j, RepD K F (gv i j) (gd i j)) : VOp K (rI0 gv) (gI (fun _ _ => true) gd) := by
  intro F H x y a b c Q s ra rb hg q
  unfold gI at hg
  split at hg
  · rename_i i j
    cases hg
    exact ⟨i, j, rep_int ra, rep_int rb, q _ F H (Ste.refl s) (hr F i j)⟩
  · cases hg
/-- factors of together less than 2^27 bits -/
def mulOk (i j : Int) : Bool := decide (i.natAbs.log2 + j.natAbs.log2 < 134217000)
def CMulX (i j : Int) : Prop := i.natAbs.log2 + j.natAbs.log2 < 134217000
theorem CMulX.ok {i j : Int} (h : CMulX i j) : PySem.IntMulOk i j := by
  have b : ∀ x : Int, Builtin.Int.intBits x ≤ x.natAbs.log2 + 1 := fun x => by
    unfold Builtin.Int.intBits
    split <;> omega
  have h1 := b i
  have h2 := b j
  have h3 : i.natAbs.log2 + j.natAbs.log2 < 134217000 := h
  have e : bitsLine = 134217728 := by decide
  intro z
  have z2 := (Bool.and_eq_true_iff.mp z).2
  unfold Builtin.Int.intTooBig at z2
  have z4 := of_decide_eq_true z2
  rw [e] at z4
  omega
theorem op_mulX : OpR X (binaryOp .Mult) (rI CMulX fun i j => .int (i * j)) := opI fun _ _ _ _ _ _ _ hc q => PyProof.Rows.mul_int q hc.ok
def gAdd := gI (fun _ _ => true) fun i j => .int (i + j)
def gSub := gI (fun _ _ => true) fun i j => .int (i - j)
def gMul := gI mulOk fun i j => .int (i * j)
def gDiv := gI (fun _ j => decide (0 < j ∧ j < 1073741824)) fun i j => .int (i / j)
def gMod := gI (fun _ j => decide (0 < j)) fun i j => .int (i % j)
def gPow := gI (fun i j => decide (0 ≤ j ∧ j ≤ 1000000 ∧ i.natAbs < 2 ^ 64)) fun i j => .int (i ^ j.toNat)
def gLt := gI (fun _ _ => true) fun i j => .bl (decide (i < j))
def gLe := gI (fun _ _ => true) fun i j => .bl (decide (i ≤ j))
def gGt := gI (fun _ _ => true) fun i j => .bl (decide (j < i))
def gGe := gI (fun _ _ => true) fun i j => .bl (decide (j ≤ i))
theorem ev_add (ha : EvD X C W a f) (hb : EvD X C W b g) : EvD X C W (.BinOp a .Add b pos) (mOp gAdd f g) := ev_op op_add (vop_I0 fun _ _ _ => .int _) ha hb
theorem ev_sub (ha : EvD X C W a f) (hb : EvD X C W b g) : EvD X C W (.BinOp a .Sub b pos) (mOp gSub f g) := ev_op op_sub (vop_I0 fun _ _ _ => .int _) ha hb
theorem ev_mul (ha : EvD X C W a f) (hb : EvD X C W b g) : EvD X C W (.BinOp a .Mult b pos) (mOp gMul f g) := ev_op op_mulX (vop_I (fun i j h => (show CMulX i j from of_decide_eq_true (p := i.natAbs.log2 + j.natAbs.log2 < 134217000) h)) fun _ _ _ => .int _) ha hb
theorem ev_div (ha : EvD X C W a f) (hb : EvD X C W b g) : EvD X C W (.BinOp a .FloorDiv b pos) (mOp gDiv f g) := ev_op op_fdiv (vop_I (fun i j h => (show CDiv i j from of_decide_eq_true (p := 0 < j ∧ j < 1073741824) h)) fun _ _ _ => .int _) ha hb
theorem ev_mod (ha : EvD X C W a f) (hb : EvD X C W b g) : EvD X C W (.BinOp a .Mod b pos) (mOp gMod f g) := ev_op op_mod (vop_I (fun _ _ h => of_decide_eq_true h) fun _ _ _ => .int _) ha hb
theorem ev_pow (ha : EvD X C W a f) (hb : EvD X C W b g) : EvD X C W (.BinOp a .Pow b pos) (mOp gPow f g) := ev_op op_pow (vop_I (fun i j h => (show CPow i j from of_decide_eq_true (p := 0 ≤ j ∧ j ≤ 1000000 ∧ i.natAbs < 2 ^ 64) h)) fun _ _ _ => .int _) ha hb
theorem ev_lt (ha : EvD X C W a f) (hb : EvD X C W b g) : EvD X C W (.Compare a [.Lt] [b] pos) (mOp gLt f g) := ev_cmp op_lt (nomark _) (vop_I0 fun _ _ _ => .bl _) ha hb
theorem ev_le (ha : EvD X C W a f) (hb : EvD X C W b g) : EvD X C W (.Compare a [.LtE] [b] pos) (mOp gLe f g) := ev_cmp op_le (nomark _) (vop_I0 fun _ _ _ => .bl _) ha hb
theorem ev_gt (ha : EvD X C W a f) (hb : EvD X C W b g) : EvD X C W (.Compare a [.Gt] [b] pos) (mOp gGt f g) := ev_cmp op_gt (nomark _) (vop_I0 fun _ _ _ => .bl _) ha hb
theorem ev_ge (ha : EvD X C W a f) (hb : EvD X C W b g) : EvD X C W (.Compare a [.GtE] [b] pos) (mOp gGe f g) := ev_cmp op_ge (nomark _) (vop_I0 fun _ _ _ => .bl _) ha hb
def gNeg : D → Option D
  | .int i => some (.int (-i))
  | _ => none
theorem ev_neg (ha : EvD X C W a f) : EvD X C W (.UnaryOp .USub a pos) (mUn gNeg f) := ev_un un_neg (fun F H x d c Q s r hg q => by
  unfold gNeg at hg
  split at hg
  · cases hg; rename_i i; exact ⟨i, rep_int r, q _ F H (Ste.refl s) (.int _)⟩
  · cases hg) ha
end
end DL

set_option Elab.async false
set_option linter.all false
set_option maxRecDepth 100000
namespace DL
open PySem PySem.Spec L2
section
variable {X : Cx} {C : Ct} {W : WX} {a b c e : Expr} {pos : Pos} {f g h : Mo D}

/-! ### arguments -/
def mCons (f : Mo D) (g : Mo (List D)) : Mo (List D) := bnd f fun d => bnd g fun ds => pur (d :: ds)
theorem ea_nil : EaD X C W [] (pur []) := ⟨_, pa_nil, fun F H σ ε Q R q => q [] F H R Stp.refl .nil⟩
theorem ea_cons {es : List Expr} {fs : Mo (List D)} (he : EvD X C W e f) (hr : EaD X C W es fs) (hs : starEach (e :: es) X.env = (false, eval e X.env) :: starEach es X.env := by rfl) : EaD X C W (e :: es) (mCons f fs) := by
  obtain ⟨te, p1, s1⟩ := he
  obtain ⟨tr, p2, s2⟩ := hr
  refine ⟨_, pa_cons p1 p2 hs, fun F H σ ε Q R q => ?_⟩
  refine s1 F H σ ε _ R (q.bind.imp (fun d e q1 v F1 H1 R1 st1 r1 => ?_) fun x e z => z)
  refine s2 F1 H1 σ e _ R1 (q1.bind.imp (fun ds e2 q2 vs F2 H2 R2 st2 r2 => ?_) fun x e z => z.imp st1)
  exact q2 (v :: vs) F2 H2 R2 (st1.trans st2) (.cons (r1.mono st2.ff) r2)

/-! ### displays -/
def mTup (f : Mo (List D)) : Mo D := bnd f fun ds => lft (if ds.length ≤ 1000 then some (.tup ds) else none)
def mLst (f : Mo (List D)) : Mo D := bnd f fun ds => lft (if ds.length ≤ 1000 then some (.lst ds) else none)
theorem le_line {n : Nat} (h : n ≤ 1000) : n ≤ sizeLine := Nat.le_of_lt (small1000 h)
theorem ev_tup {es : List Expr} {fs : Mo (List D)} {k : Nat} (h : EaD X C W es fs) : EvD X C W (.Tuple es k pos) (mTup fs) := by
  obtain ⟨te, p1, s1⟩ := h
  refine ⟨_, pe_tup p1, fun F H σ ε Q R q => ?_⟩
  refine s1 F H σ ε _ R (q.bind.imp (fun ds e q1 vs F1 H1 R1 st1 r1 => ?_) fun x e z => z)
  unfold lft at q1
  by_cases hl : ds.length ≤ 1000
  · rw [if_pos hl] at q1
    refine ⟨by rw [r1.length]; exact le_line hl, fun p hp => ?_⟩
    have st := Ste.laid (o := .tup vs) R1.fh hp
    exact q1 _ _ _ (R1.step st) (st1.trans st.stp) (.tup (.inl (.inl upd_same)) (r1.mono st.ff))
  · rw [if_neg hl] at q1; exact q1.elim
theorem ev_lst {es : List Expr} {fs : Mo (List D)} (h : EaD X C W es fs) : EvD X C W (.List es pos) (mLst fs) := by
  obtain ⟨te, p1, s1⟩ := h
  refine ⟨_, pe_lst p1, fun F H σ ε Q R q => ?_⟩
  refine s1 F H σ ε _ R (q.bind.imp (fun ds e q1 vs F1 H1 R1 st1 r1 => ?_) fun x e z => z)
  unfold lft at q1
  by_cases hl : ds.length ≤ 1000
  · rw [if_pos hl] at q1
    refine ⟨by rw [r1.length]; exact le_line hl, fun p hp => ?_⟩
    have st := Ste.laid (o := .lst vs) R1.fh hp
    exact q1 _ _ _ (R1.step st) (st1.trans st.stp) (.lst upd_same (r1.mono st.ff))
  · rw [if_neg hl] at q1; exact q1.elim

/-! ### truth -/
def asB : D → Option Bool
  | .bl b => some b
  | _ => none
def mB (f : Mo D) : Mo Bool := bnd f fun d => lft (asB d)
theorem asB_eq {d : D} {k : Bool} (h : asB d = some k) : d = .bl k := by
  unfold asB at h
  split at h
  · cases h; rfl
  · cases h
theorem te_val {e : Expr} (h : EvD X C W e f) (he : ∀ whole, isTrue e X.env whole = (do let v ← whole; standAt e.pos; holding [v] (truthy v)) := by intro _; rfl) : TeD X C W e (mB f) := by
  obtain ⟨te, p1, s1⟩ := h
  refine ⟨_, pt_val p1 he, fun F H σ ε Q R q => ?_⟩
  refine s1 F H σ ε _ R (q.bind.imp (fun d e q1 v F1 H1 R1 st1 r1 => ?_) fun x e z => z)
  unfold lft at q1
  cases hk : asB d with
  | none => rw [hk] at q1; exact q1.elim
  | some k =>
    rw [hk] at q1
    have := asB_eq hk
    subst this
    exact ⟨k, rep_bl r1, q1 F1 H1 R1 st1⟩
def mNot (f : Mo Bool) : Mo Bool := bnd f fun b => pur !b
theorem te_not {f : Mo Bool} (h : TeD X C W a f) : TeD X C W (.UnaryOp .Not a pos) (mNot f) := by
  obtain ⟨te, p1, s1⟩ := h
  refine ⟨_, pt_not p1, fun F H σ ε Q R q => ?_⟩
  exact s1 F H σ ε _ R (q.bind.imp (fun d e q1 F1 H1 R1 st1 => q1 F1 H1 R1 st1) fun x e z => z)
def mAnd (f g : Mo Bool) : Mo Bool := bnd f fun b => if b = true then g else pur false
def mOr (f g : Mo Bool) : Mo Bool := bnd f fun b => if b = true then pur true else g
theorem te_w {f : Mo Bool} (h : TwD X C W a f) : TeD X C W a f := by
  obtain ⟨te, p1, s1⟩ := h
  exact ⟨te, p1.pt, s1⟩
theorem tw_and1 {f : Mo Bool} (h : TeD X C W a f) : TwD X C W (.BoolOp .And [a] pos) f := by
  obtain ⟨te, p1, s1⟩ := h
  exact ⟨te, pw_and1 p1, s1⟩
theorem tw_or1 {f : Mo Bool} (h : TeD X C W a f) : TwD X C W (.BoolOp .Or [a] pos) f := by
  obtain ⟨te, p1, s1⟩ := h
  exact ⟨te, pw_or1 p1, s1⟩
theorem tw_and {f g : Mo Bool} {rest : List Expr} (ha : TeD X C W a f) (hb : TwD X C W (.BoolOp .And (b :: rest) pos) g) : TwD X C W (.BoolOp .And (a :: b :: rest) pos) (mAnd f g) := by
  obtain ⟨te, p1, s1⟩ := ha
  obtain ⟨tb, p2, s2⟩ := hb
  refine ⟨_, pw_and p1 p2, fun F H σ ε Q R q => ?_⟩
  refine s1 F H σ ε _ R (q.bind.imp (fun d e q1 F1 H1 R1 st1 => ?_) fun x e z => z)
  cases d with
  | true =>
    refine iteT ?_
    rw [if_pos rfl] at q1
    exact s2 F1 H1 σ e _ R1 (q1.imp (fun d2 e2 q2 F2 H2 R2 st2 => q2 F2 H2 R2 (st1.trans st2)) fun x e z => z.imp st1)
  | false =>
    refine iteF ?_
    exact q1 F1 H1 R1 st1
theorem tw_or {f g : Mo Bool} {rest : List Expr} (ha : TeD X C W a f) (hb : TwD X C W (.BoolOp .Or (b :: rest) pos) g) : TwD X C W (.BoolOp .Or (a :: b :: rest) pos) (mOr f g) := by
  obtain ⟨te, p1, s1⟩ := ha
  obtain ⟨tb, p2, s2⟩ := hb
  refine ⟨_, pw_or p1 p2, fun F H σ ε Q R q => ?_⟩
  refine s1 F H σ ε _ R (q.bind.imp (fun d e q1 F1 H1 R1 st1 => ?_) fun x e z => z)
  cases d with
  | false =>
    refine iteF ?_
    rw [if_neg Bool.false_ne_true] at q1
    exact s2 F1 H1 σ e _ R1 (q1.imp (fun d2 e2 q2 F2 H2 R2 st2 => q2 F2 H2 R2 (st1.trans st2)) fun x e z => z.imp st1)
  | true =>
    refine iteT ?_
    exact q1 F1 H1 R1 st1
/-! as values -/
def mAndV (f g : Mo D) : Mo D := bnd (mB f) fun b => if b = true then g else pur (.bl false)
def mOrV (f g : Mo D) : Mo D := bnd (mB f) fun b => if b = true then pur (.bl true) else g
def mNotV (f : Mo D) : Mo D := bnd (mB f) fun b => pur (.bl !b)
theorem good_mB {f : Mo D} {ε : List Ent} {p : Bool → List Ent → Prop} {q : Xn → List Ent → Prop} (h : Good (mB f ε) p q) : Good (f ε) (fun d e => ∃ k, d = .bl k ∧ p k e) q := by
  refine h.bind.imp (fun d e q1 => ?_) fun x e z => z
  unfold lft at q1
  cases hk : asB d with
  | none => rw [hk] at q1; exact q1.elim
  | some k => rw [hk] at q1; exact ⟨k, asB_eq hk, q1⟩
theorem ev_one {op : BoolOp} (h : EvD X C W a f) : EvD X C W (.BoolOp op [a] pos) f := by
  obtain ⟨te, p1, s1⟩ := h
  exact ⟨te, pe_one p1, s1⟩
theorem ev_and {rest : List Expr} (ha : EvD X C W a f) (hb : EvD X C W (.BoolOp .And (b :: rest) pos) g) : EvD X C W (.BoolOp .And (a :: b :: rest) pos) (mAndV f g) := by
  obtain ⟨te, p1, s1⟩ := ha
  obtain ⟨tb, p2, s2⟩ := hb
  refine ⟨_, pe_and p1 p2, fun F H σ ε Q R q => ?_⟩
  refine s1 F H σ ε _ R ((good_mB q.bind).imp (fun d e ⟨k, ek, q1⟩ v F1 H1 R1 st1 r1 => ?_) fun x e z => z)
  subst ek
  refine ⟨k, rep_bl r1, ?_⟩
  cases k with
  | true =>
    refine iteT ?_
    rw [if_pos rfl] at q1
    exact s2 F1 H1 σ e _ R1 (q1.imp (fun d2 e2 q2 v2 F2 H2 R2 st2 r2 => q2 v2 F2 H2 R2 (st1.trans st2) r2) fun x e z => z.imp st1)
  | false =>
    refine iteF ?_
    exact q1 _ F1 H1 R1 st1 (.bl false)
theorem ev_or {rest : List Expr} (ha : EvD X C W a f) (hb : EvD X C W (.BoolOp .Or (b :: rest) pos) g) : EvD X C W (.BoolOp .Or (a :: b :: rest) pos) (mOrV f g) := by
  obtain ⟨te, p1, s1⟩ := ha
  obtain ⟨tb, p2, s2⟩ := hb
  refine ⟨_, pe_or p1 p2, fun F H σ ε Q R q => ?_⟩
  refine s1 F H σ ε _ R ((good_mB q.bind).imp (fun d e ⟨k, ek, q1⟩ v F1 H1 R1 st1 r1 => ?_) fun x e z => z)
  subst ek
  refine ⟨k, rep_bl r1, ?_⟩
  cases k with
  | false =>
    refine iteF ?_
    rw [if_neg Bool.false_ne_true] at q1
    exact s2 F1 H1 σ e _ R1 (q1.imp (fun d2 e2 q2 v2 F2 H2 R2 st2 r2 => q2 v2 F2 H2 R2 (st1.trans st2) r2) fun x e z => z.imp st1)
  | true =>
    refine iteT ?_
    exact q1 _ F1 H1 R1 st1 (.bl true)
theorem ev_not (ha : EvD X C W a f) : EvD X C W (.UnaryOp .Not a pos) (mNotV f) := by
  obtain ⟨te, p1, s1⟩ := ha
  refine ⟨_, pe_not p1, fun F H σ ε Q R q => ?_⟩
  refine s1 F H σ ε _ R ((good_mB q.bind).imp (fun d e ⟨k, ek, q1⟩ v F1 H1 R1 st1 r1 => ?_) fun x e z => z)
  subst ek
  exact ⟨k, rep_bl r1, q1 _ F1 H1 R1 st1 (.bl _)⟩
def mIf (t : Mo Bool) (f g : Mo D) : Mo D := bnd t fun b => if b = true then f else g
theorem ev_if {t : Mo Bool} (hc : TeD X C W c t) (ha : EvD X C W a f) (hb : EvD X C W b g) : EvD X C W (.IfExp c a b pos) (mIf t f g) := by
  obtain ⟨tc, p0, s0⟩ := hc
  obtain ⟨te, p1, s1⟩ := ha
  obtain ⟨tb, p2, s2⟩ := hb
  refine ⟨_, pe_ifExp p0 p1 p2, fun F H σ ε Q R q => ?_⟩
  refine s0 F H σ ε _ R (q.bind.imp (fun d e q1 F1 H1 R1 st1 => ?_) fun x e z => z)
  cases d with
  | true =>
    refine iteT ?_
    rw [if_pos rfl] at q1
    exact s1 F1 H1 σ e _ R1 (q1.imp (fun d2 e2 q2 v2 F2 H2 R2 st2 r2 => q2 v2 F2 H2 R2 (st1.trans st2) r2) fun x e z => z.imp st1)
  | false =>
    refine iteF ?_
    rw [if_neg Bool.false_ne_true] at q1
    exact s2 F1 H1 σ e _ R1 (q1.imp (fun d2 e2 q2 v2 F2 H2 R2 st2 r2 => q2 v2 F2 H2 R2 (st1.trans st2) r2) fun x e z => z.imp st1)
/-- a op b op' c -/
def mChain (g1 g2 : D → D → Option D) (f g h : Mo D) : Mo D := bnd f fun x => bnd g fun y => bnd (mB (lft (g1 x y))) fun k => if k = true then bnd h fun z => lft (g2 y z) else pur (.bl false)
theorem ev_chain {op op' : CmpOp} {r r' : R2} {g1 g2 : D → D → Option D} (ho : OpR X (compareOp op) r) (ho' : OpR X (compareOp op') r') (hv : VOp X.K r g1) (hv' : VOp X.K r' g2) (ha : EvD X C W a f) (hb : EvD X C W b g) (hc : EvD X C W c h)
    (hp : ∀ ta tb tc, PE X a ta → PE X b tb → PE X c tc → PE X e (tChain r r' ta tb tc)) : EvD X C W e (mChain g1 g2 f g h) := by
  obtain ⟨ta, p0, s0⟩ := ha
  obtain ⟨tb, p1, s1⟩ := hb
  obtain ⟨tc, p2, s2⟩ := hc
  refine ⟨_, hp _ _ _ p0 p1 p2, fun F H σ ε Q R q => ?_⟩
  refine s0 F H σ ε _ R (q.bind.imp (fun d e q1 v F1 H1 R1 st1 r1 => ?_) fun x e z => z)
  refine s1 F1 H1 σ e _ R1 (q1.bind.imp (fun d2 e2 q2 v2 F2 H2 R2 st2 r2 => ?_) fun x e z => z.imp st1)
  have q3 := good_mB q2.bind
  unfold lft at q3
  cases hk : g1 d d2 with
  | none => rw [hk] at q3; exact q3.elim
  | some k =>
    rw [hk] at q3
    obtain ⟨kb, ek, q4⟩ := q3
    subst ek
    refine hv F2 H2 v v2 d d2 _ _ R2.fh (r1.mono st2.ff) r2 hk fun w F3 H3 st3 rw' => ⟨kb, rep_bl rw', ?_⟩
    have R3 := R2.step st3
    have stA := (st1.trans st2).trans (st3.stp (σ := σ) (ε := e2))
    cases kb with
    | false =>
      refine iteF ?_
      exact q4 _ F3 H3 R3 stA (.bl false)
    | true =>
      refine iteT ?_
      rw [if_pos rfl] at q4
      refine s2 F3 H3 σ e2 _ R3 (q4.bind.imp (fun d4 e4 q5 v4 F4 H4 R4 st4 r4 => ?_) fun x e z => z.imp stA)
      cases hg : g2 d2 d4 with
      | none => rw [hg] at q5; exact q5.elim
      | some y =>
        rw [hg] at q5
        exact hv' F4 H4 v2 v4 d2 d4 _ _ R4.fh ((r2.mono st3.ff).mono st4.ff) r4 hg fun w5 F5 H5 st5 rw5 => q5 w5 F5 H5 (R4.step st5) ((stA.trans st4).trans st5.stp) rw5

/-! ### calls of built-ins -/
def VCall (K : PySem.W.Frag) (r : List V → Hp → VK → Prop) (g : List D → Option D) : Prop := ∀ F H xs ds c Q, Same F H → RepL K F xs ds → g ds = some c → (∀ v F' H', Ste F H F' H' → RepD K F' v c → Q v H') → r xs H Q
def mCall (g : List D → Option D) (f : Mo (List D)) : Mo D := bnd f fun ds => lft (g ds)
theorem ev_cb {r : List V → Hp → VK → Prop} {g : List D → Option D} {es : List Expr} {fs : Mo (List D)} (hv : VCall X.K r g) (ha : EaD X C W es fs) (hp : ∀ ta, PA X es ta → PE X e (tCB r ta)) : EvD X C W e (mCall g fs) := by
  obtain ⟨ta, p1, s1⟩ := ha
  refine ⟨_, hp _ p1, fun F H σ ε Q R q => ?_⟩
  refine s1 F H σ ε _ R (q.bind.imp (fun ds e q1 vs F1 H1 R1 st1 r1 => ?_) fun x e z => z)
  unfold lft at q1
  cases hg : g ds with
  | none => rw [hg] at q1; exact q1.elim
  | some c =>
    rw [hg] at q1
    exact hv F1 H1 vs ds c Q R1.fh r1 hg fun w F3 H3 st rw' => q1 w F3 H3 (R1.step st) (st1.trans st.stp) rw'

/-! ### what a def does, by data -/
inductive Ans where
  | ret (d : D)
  | exc (x : Xn)
/-- a def without mutable arguments -/
def SpP (K : PySem.W.Frag) (n : Nat) (m : List D → Option Ans) : Sp := fun vs H Q E => vs.length = n ∧ ∃ F ds, Same F H ∧ RepL K F vs ds ∧ match m ds with
  | some (.ret d) => ∀ v F' H', Ste F H F' H' → RepD K F' v d → Q v H'
  | some (.exc x) => ∀ c od F' H', Ste F H F' H' → RepX K F' H' x c od → E c od H'
  | none => False
def ansM (o : Option Ans) : Mo D := fun ε => match o with
  | some (.ret d) => some (.ok d ε)
  | some (.exc x) => some (.ex x ε)
  | none => none
/-- a def whose first argument is a list that it changes -/
def SpQ (K : PySem.W.Frag) (n : Nat) (m : List D → List D → Option (Ans × List D)) : Sp := fun vs H Q E => vs.length = n ∧ ∃ F l us ws ps ds, vs = .ref l :: ws ∧ Same F H ∧ H l = some (.lst us) ∧ F l = none ∧ RepL K F us ps ∧ RepL K F ws ds ∧ match m ps ds with
  | some (.ret d, ps') => ∀ v F' H' us', Same F F' → Same F' H' → (∀ b o, H b = some o → b ≠ l → H' b = some o) → (∀ b, H b ≠ none → F' b = F b) → H' l = some (.lst us') → RepL K F' us' ps' → RepD K F' v d → Q v H'
  | some (.exc x, ps') => ∀ c od F' H' us', Same F F' → Same F' H' → (∀ b o, H b = some o → b ≠ l → H' b = some o) → (∀ b, H b ≠ none → F' b = F b) → H' l = some (.lst us') → RepL K F' us' ps' → RepX K F' H' x c od → E c od H'
  | none => False
end
def Ent.get : Ent → Option (List D)
  | .own ds => some ds
  | .io ds => some ds
  | _ => none
def Ent.put (ds : List D) : Ent → Ent
  | .own _ => .own ds
  | .io _ => .io ds
  | e => e
section
variable {K : PySem.W.Frag} {C : Ct} {F H F' H' : Hp} {σ : St} {ε : List Ent}
theorem Rep.at (R : Rep K C F H σ ε) {i : Nat} {e : Ent} {ps : List D} (he : ε[i]? = some e) (hp : e.get = some ps) : ∃ l us, σ[i]? = some (some (.ref l)) ∧ H l = some (.lst us) ∧ F l = none ∧ RepL K F us ps ∧ e.mut = true := by
  have q := R.ent i e he
  cases e with
  | un => cases hp
  | xc => cases hp
  | dat d => cases hp
  | own ds =>
    cases hp
    obtain ⟨l, us, a, b, c, d, _⟩ := q
    exact ⟨l, us, a, b, c, d, rfl⟩
  | io ds =>
    cases hp
    obtain ⟨l, us, a, b, c, d, _⟩ := q
    exact ⟨l, us, a, b, c, d, rfl⟩
  | od ob => cases hp
  | ib ob => cases hp
theorem Rep.apart (R : Rep K C F H σ ε) {i : Nat} {e : Ent} {l b : Addr} (he : ε[i]? = some e) (hm : e.mut = true) (ha : σ[i]? = some (some (.ref l))) (p : Apart σ ε b) : b ≠ l := fun z => by
  have := p i e (by rw [z]; exact ha) he
  rw [this] at hm; cases hm
/-- a mutable list changes, and new things may have come -/
theorem Rep.callQ (R : Rep K C F H σ ε) {i : Nat} {e : Ent} {ps ps' : List D} {l : Addr} {us' : List V} (he : ε[i]? = some e) (hp : e.get = some ps) (ha : σ[i]? = some (some (.ref l)))
    (h1 : Same F F') (h2 : Same F' H') (h3 : ∀ b o, H b = some o → b ≠ l → H' b = some o) (h4 : ∀ b, H b ≠ none → F' b = F b) (h5 : H' l = some (.lst us')) (h6 : RepL K F' us' ps') :
    Rep K C F' H' σ (ε.set i (e.put ps')) ∧ Stp σ ε (ε.set i (e.put ps')) F H F' H' := by
  obtain ⟨l2, us, a, b, c, d, hm⟩ := R.at he hp
  rw [ha] at a
  cases a
  have fl : F' l = none := (h4 l (by rw [b]; exact fun z => by cases z)).trans c
  have st : Ste F H F' (fun x => if x = l then H l else H' x) := ⟨h1, fun x o q => by
      by_cases hx : x = l
      · rw [hx, fl] at q; cases q
      · show (if x = l then H l else H' x) = _
        rw [if_neg hx]; exact h2 x o q, h4, fun x o q => by
      show (if x = l then H l else H' x) = _
      by_cases hx : x = l
      · rw [if_pos hx, ← hx]; exact q
      · rw [if_neg hx]; exact h3 x o q hx⟩
  have R1 := R.step st
  have R2 := R1.change he hm ha h6 (e' := e.put ps') (by
    cases e with
    | un => cases hp
    | xc => cases hp
    | dat d => cases hp
    | own ds => exact .inl ⟨_, rfl, rfl⟩
    | io ds => exact .inr ⟨_, rfl, rfl⟩
    | od ob => cases hp
    | ib ob => cases hp)
  have eH : upd (fun x => if x = l then H l else H' x) l (.lst us') = H' := by
    funext x
    by_cases hx : x = l
    · subst hx; rw [upd_same, h5]
    · rw [upd_ne hx, if_neg hx]
  rw [eH] at R2
  refine ⟨R2, h1, fun x o q p => h3 x o q (R.apart he hm ha p), fun x q _ => h4 x q, fun x p j e2 hj hj' => ?_, fun x q => by
    by_cases hx : x = l
    · rw [hx, h5]; exact fun z => by cases z
    · cases qq : H x with
      | none => exact absurd qq q
      | some o => rw [h3 x o qq hx]; exact fun z => by cases z⟩
  by_cases hij : i = j
  · subst hij
    have := p i e hj he
    rw [this] at hm; cases hm
  · rw [List.getElem?_set_ne hij] at hj'
    exact p j e2 hj hj'
end
section
variable {X : Cx} {C : Ct} {W : WX} {a b c e : Expr} {pos : Pos} {f g h : Mo D}
def mFn (n : Nat) (m : List D → Option Ans) (f : Mo (List D)) : Mo D := bnd f fun ds => if ds.length = n then ansM (m ds) else lft none
theorem ev_fn {n : Nat} {m : List D → Option Ans} {es : List Expr} {fs : Mo (List D)} (ha : EaD X C W es fs) (hp : ∀ ta, PA X es ta → PE X e (tCallS (SpP X.K n m) (WE W) ta)) : EvD X C W e (mFn n m fs) := by
  obtain ⟨ta, p1, s1⟩ := ha
  refine ⟨_, hp _ p1, fun F H σ ε Q R q => ?_⟩
  refine s1 F H σ ε _ R (q.bind.imp (fun ds e q1 vs F1 H1 R1 st1 r1 => ?_) fun x e z => z)
  by_cases hl : ds.length = n
  · rw [if_pos hl] at q1
    refine ⟨by rw [r1.length]; exact hl, F1, ds, R1.fh, r1, ?_⟩
    unfold ansM at q1
    cases hm : m ds with
    | none => rw [hm] at q1; exact q1.elim
    | some an =>
      rw [hm] at q1
      cases an with
      | ret d => exact fun v F' H' st r => q1 v F' H' (R1.step st) (st1.trans st.stp) r
      | exc x => exact fun c od F' H' st r => q1 c od F' H' (R1.step st) (st1.trans st.stp) r
  · rw [if_neg hl] at q1; exact q1.elim
def mFnQ (i n : Nat) (m : List D → List D → Option (Ans × List D)) (f : Mo (List D)) : Mo D := fun ε0 => match (ε0[i]?).bind Ent.get with
  | none => none
  | some _ => bnd f (fun ds ε => match ε[i]? with
    | none => none
    | some e => match e.get with
      | none => none
      | some ps => if ds.length + 1 = n then (match m ps ds with
        | some (.ret d, ps') => some (.ok d (ε.set i (e.put ps')))
        | some (.exc x, ps') => some (.ex x (ε.set i (e.put ps')))
        | none => none) else none) ε0
theorem ev_fnQ {i n : Nat} {m : List D → List D → Option (Ans × List D)} {en : Expr} {es : List Expr} {fs : Mo (List D)} (hn : PE X en (tVar i)) (ha : EaD X C W es fs) (hp : ∀ ta, PA X es ta → PE X e (tCallS (SpQ X.K n m) (WE W) (tCons (tVar i) ta))) : EvD X C W e (mFnQ i n m fs) := by
  obtain ⟨ta, p1, s1⟩ := ha
  refine ⟨_, hp _ p1, fun F H σ ε Q R q => ?_⟩
  unfold mFnQ at q
  cases h0 : ε[i]? with
  | none => rw [h0] at q; exact q.elim
  | some e0 =>
    cases h1 : e0.get with
    | none => rw [h0] at q; simp only [Option.bind_some, h1] at q; exact q.elim
    | some p0 =>
      rw [h0] at q
      simp only [Option.bind_some, h1] at q
      obtain ⟨l, us0, a0, _⟩ := R.at h0 h1
      refine ⟨.ref l, a0, ?_⟩
      refine s1 F H σ ε _ R (q.bind.imp (fun ds e q1 vs F1 H1 R1 st1 r1 => ?_) fun x e z => z)
      cases h2 : e[i]? with
      | none => rw [h2] at q1; exact q1.elim
      | some e1 =>
        rw [h2] at q1
        dsimp only at q1
        cases h3 : e1.get with
        | none => rw [h3] at q1; exact q1.elim
        | some ps =>
          rw [h3] at q1
          dsimp only at q1
          by_cases hl : ds.length + 1 = n
          · rw [if_pos hl] at q1
            obtain ⟨l2, us, a, b, c, d, hm⟩ := R1.at h2 h3
            rw [a0] at a
            cases a
            refine ⟨by rw [List.length_cons, r1.length]; exact hl, F1, l, us, vs, ps, ds, rfl, R1.fh, b, c, d, r1, ?_⟩
            cases hmm : m ps ds with
            | none => rw [hmm] at q1; exact q1.elim
            | some an =>
              rw [hmm] at q1
              obtain ⟨an, ps'⟩ := an
              cases an with
              | ret d =>
                intro v F' H' us' k1 k2 k3 k4 k5 k6 k7
                obtain ⟨R2, st2⟩ := R1.callQ h2 h3 a0 k1 k2 k3 k4 k5 k6
                exact q1 v F' H' R2 (st1.trans st2) k7
              | exc x =>
                intro c od F' H' us' k1 k2 k3 k4 k5 k6 k7
                obtain ⟨R2, st2⟩ := R1.callQ h2 h3 a0 k1 k2 k3 k4 k5 k6
                exact q1 c od F' H' R2 (st1.trans st2) k7
          · rw [if_neg hl] at q1; exact q1.elim
/-- xs.pop() of a list of one's own -/
def mPop (i : Nat) : Mo D := fun ε => match ε[i]? with
  | none => none
  | some e => match e.get with
    | none => none
    | some ps => match ps[ps.length - 1]? with
      | none => none
      | some d => some (.ok d (ε.set i (e.put ps.dropLast)))
theorem ev_pop {i : Nat} (hp : PE X e (tBM0 X.K "list" rPop (tVar i))) : EvD X C W e (mPop i) := by
  refine ⟨_, hp, fun F H σ ε Q R q => ?_⟩
  unfold mPop at q
  cases h2 : ε[i]? with
  | none => rw [h2] at q; exact q.elim
  | some e1 =>
    rw [h2] at q
    dsimp only at q
    cases h3 : e1.get with
    | none => rw [h3] at q; exact q.elim
    | some ps =>
      rw [h3] at q
      dsimp only at q
      obtain ⟨l, us, a, b, c, d, hm⟩ := R.at h2 h3
      cases h4 : ps[ps.length - 1]? with
      | none => rw [h4] at q; exact q.elim
      | some y =>
        rw [h4] at q
        obtain ⟨v, hv, rv⟩ := d.get h4
        refine ⟨.ref l, a, .inl ⟨rfl, us, .inl (.inl b)⟩, l, us, v, rfl, rfl, b, by rw [d.length]; exact hv, ?_⟩
        obtain ⟨R2, st2⟩ := R.callQ (F' := F) (H' := upd H l (.lst us.dropLast)) h2 h3 a (Same.refl F) (fun x o q => by
          rw [upd_ne (fun z => by rw [z, c] at q; cases q)]; exact R.fh x o q) (fun x o q n => by rw [upd_ne n]; exact q) (fun _ _ => rfl) upd_same d.dropLast
        exact q v F _ R2 st2 rv
/-- len(xs), xs a name whatever holds it -/
def mLenN (i : Nat) : Mo D := fun ε => match ε[i]? with
  | some (.own ds) => some (.ok (.int ds.length) ε)
  | some (.io ds) => some (.ok (.int ds.length) ε)
  | some (.dat (.lst ds)) => some (.ok (.int ds.length) ε)
  | some (.dat (.rdl ds)) => some (.ok (.int ds.length) ε)
  | some (.dat (.tup ds)) => some (.ok (.int ds.length) ε)
  | some (.dat (.str x)) => if x.length ≤ 1000000 then some (.ok (.int x.length) ε) else none
  | _ => none
theorem rep_seqs {K : PySem.W.Frag} {F : Hp} {v : V} {ds : List D} : RepD K F v (.lst ds) → ∃ a xs, v = .ref a ∧ SqL K F a xs ∧ RepL K F xs ds := fun h => by
  cases h with
  | lst a b => exact ⟨_, _, rfl, .inl (.inl a), b⟩
theorem rep_lst {K : PySem.W.Frag} {F : Hp} {v : V} {ds : List D} : RepD K F v (.lst ds) → ∃ a xs, v = .ref a ∧ F a = some (.lst xs) ∧ RepL K F xs ds := fun h => by
  cases h with
  | lst a b => exact ⟨_, _, rfl, a, b⟩
theorem rep_rdl {K : PySem.W.Frag} {F : Hp} {v : V} {ds : List D} : RepD K F v (.rdl ds) → ∃ a xs, v = .ref a ∧ SqL K F a xs ∧ RepL K F xs ds := fun h => by
  cases h with
  | rdl a b => exact ⟨_, _, rfl, a, b⟩
theorem rep_tup {K : PySem.W.Frag} {F : Hp} {v : V} {ds : List D} : RepD K F v (.tup ds) → ∃ a xs, v = .ref a ∧ SqT K F a xs ∧ RepL K F xs ds := fun h => by
  cases h with
  | tup a b => exact ⟨_, _, rfl, a, b⟩
theorem line_big {n : Nat} (h : n ≤ 1000000) : n ≤ sizeLine := Nat.le_trans h (by decide)
theorem ev_lenN {i : Nat} (hp : PE X e (tCB (fun xs H Q => ∃ x n, xs = [x] ∧ LenV X.K x H n ∧ Q (.int n) H) (tCons (tVar i) tNil))) : EvD X C W e (mLenN i) := by
  refine ⟨_, hp, fun F H σ ε Q R q => ?_⟩
  unfold mLenN at q
  cases h2 : ε[i]? with
  | none => rw [h2] at q; exact q.elim
  | some e1 =>
    rw [h2] at q
    have en := R.ent i e1 h2
    cases e1 with
    | un => exact q.elim
    | xc => exact q.elim
    | od ob => exact q.elim
    | ib ob => exact q.elim
    | own ds =>
      obtain ⟨l, us, a, b, c, d, _⟩ := en
      refine ⟨.ref l, a, .ref l, us.length, rfl, .inl ⟨us, .inl (.inl b), rfl⟩, ?_⟩
      rw [d.length]
      exact q _ F H R Stp.refl (.int _)
    | io ds =>
      obtain ⟨l, us, a, b, c, d, _⟩ := en
      refine ⟨.ref l, a, .ref l, us.length, rfl, .inl ⟨us, .inl (.inl b), rfl⟩, ?_⟩
      rw [d.length]
      exact q _ F H R Stp.refl (.int _)
    | dat z =>
      obtain ⟨v, a, r⟩ := en
      cases z with
      | lst ds =>
        obtain ⟨p, xs, rfl, s, r2⟩ := rep_seqs r
        refine ⟨_, a, .ref p, xs.length, rfl, .inl ⟨xs, Same.seq R.fh s, rfl⟩, ?_⟩
        rw [r2.length]
        exact q _ F H R Stp.refl (.int _)
      | rdl ds =>
        obtain ⟨p, xs, rfl, s, r2⟩ := rep_rdl r
        refine ⟨_, a, .ref p, xs.length, rfl, .inl ⟨xs, Same.seq R.fh s, rfl⟩, ?_⟩
        rw [r2.length]
        exact q _ F H R Stp.refl (.int _)
      | tup ds =>
        obtain ⟨p, xs, rfl, s, r2⟩ := rep_tup r
        refine ⟨_, a, .ref p, xs.length, rfl, .inr ⟨xs, seqT R.fh s, rfl⟩, ?_⟩
        rw [r2.length]
        exact q _ F H R Stp.refl (.int _)
      | str x =>
        have := rep_str r
        subst this
        by_cases hx : x.length ≤ 1000000
        · simp only [hx, if_true] at q
          exact ⟨_, a, .str x, x.length, rfl, ⟨line_big hx, rfl⟩, q _ F H R Stp.refl (.int _)⟩
        · simp only [hx, if_false] at q
          exact q.elim
      | non => exact q.elim
      | bl k => exact q.elim
      | int k => exact q.elim
      | rf k => exact q.elim
      | dct => exact q.elim
      | fn => exact q.elim
      | dk => exact q.elim
      | dt => exact q.elim
      | ob => exact q.elim
def gLen : D → Option D
  | .lst ds => some (.int ds.length)
  | .rdl ds => some (.int ds.length)
  | .tup ds => some (.int ds.length)
  | .str x => if x.length ≤ 1000000 then some (.int x.length) else none
  | _ => none
def gOne (h : D → Option D) : List D → Option D
  | [d] => h d
  | _ => none
def gTwo (h : D → D → Option D) : List D → Option D
  | [d, e] => h d e
  | _ => none
theorem vc_len {K : PySem.W.Frag} : VCall K (fun xs H Q => ∃ x n, xs = [x] ∧ LenV K x H n ∧ Q (.int n) H) (gOne gLen) := by
  intro F H xs ds c Q s r hg q
  unfold gOne at hg
  split at hg
  · rename_i d
    cases r with
    | cons r1 r2 =>
      cases r2
      unfold gLen at hg
      split at hg
      · cases hg
        obtain ⟨p, xs, rfl, s2, r2⟩ := rep_seqs r1
        refine ⟨.ref p, xs.length, rfl, .inl ⟨xs, Same.seq s s2, rfl⟩, ?_⟩
        rw [r2.length]
        exact q _ F H (Ste.refl s) (.int _)
      · cases hg
        obtain ⟨p, xs, rfl, s2, r2⟩ := rep_rdl r1
        refine ⟨.ref p, xs.length, rfl, .inl ⟨xs, Same.seq s s2, rfl⟩, ?_⟩
        rw [r2.length]
        exact q _ F H (Ste.refl s) (.int _)
      · cases hg
        obtain ⟨p, xs, rfl, s2, r2⟩ := rep_tup r1
        refine ⟨.ref p, xs.length, rfl, .inr ⟨xs, seqT s s2, rfl⟩, ?_⟩
        rw [r2.length]
        exact q _ F H (Ste.refl s) (.int _)
      · rename_i x
        split at hg
        · rename_i hx
          cases hg
          have := rep_str r1
          subst this
          exact ⟨_, x.length, rfl, ⟨line_big hx, rfl⟩, q _ F H (Ste.refl s) (.int _)⟩
        · cases hg
      · cases hg
  · cases hg
end
end DL

set_option Elab.async false
set_option linter.all false
set_option maxRecDepth 100000
namespace DL
open PySem PySem.Spec L2

/-! ### == of data -/
mutual
def toPy : D → Option PyData
  | .non => some .none
  | .bl b => some (.bool b)
  | .int i => some (.int i)
  | .str x => some (.str x)
  | .tup ds => (toPyL ds).map .tuple
  | .lst ds => (toPyL ds).map .list
  | .rdl ds => (toPyL ds).map .list
  | .rf _ => none
  | .dct => none
  | .fn _ => none
  | .dk _ _ => none
  | .dt _ _ => none
  | .ob _ _ _ => none
def toPyL : List D → Option (List PyData)
  | [] => some []
  | d :: r => (toPy d).bind fun p => (toPyL r).map fun q => p :: q
end
mutual
theorem dp_of {K : PySem.W.Frag} {F : Hp} : ∀ {v : V} {d : D} {p : PyData}, RepD K F v d → toPy d = some p → Dp K F v p
  | _, .non, _, h, e => by cases h; simp [toPy] at e; subst e; exact .non
  | _, .bl b, _, h, e => by cases h; simp [toPy] at e; subst e; exact .bl b
  | _, .int b, _, h, e => by cases h; simp [toPy] at e; subst e; exact .int b
  | _, .str b, _, h, e => by cases h; simp [toPy] at e; subst e; exact .str b
  | _, .tup ds, _, h, e => by
    cases h with
    | tup s r =>
      simp only [toPy, Option.map_eq_some_iff] at e
      obtain ⟨q, e1, rfl⟩ := e
      exact .tup s (dpL_of r e1)
  | _, .lst ds, _, h, e => by
    cases h with
    | lst s r =>
      simp only [toPy, Option.map_eq_some_iff] at e
      obtain ⟨q, e1, rfl⟩ := e
      exact .lst (.inl (.inl s)) (dpL_of r e1)
  | _, .rdl ds, _, h, e => by
    cases h with
    | rdl s r =>
      simp only [toPy, Option.map_eq_some_iff] at e
      obtain ⟨q, e1, rfl⟩ := e
      exact .lst s (dpL_of r e1)
  | _, .rf _, _, _, e => by simp [toPy] at e
  | _, .dct, _, _, e => by simp [toPy] at e
  | _, .fn _, _, _, e => by simp [toPy] at e
  | _, .dk _ _, _, _, e => by simp [toPy] at e
  | _, .dt _ _, _, _, e => by simp [toPy] at e
  | _, .ob _ _ _, _, _, e => by simp [toPy] at e
theorem dpL_of {K : PySem.W.Frag} {F : Hp} : ∀ {vs : List V} {ds : List D} {p : List PyData}, RepL K F vs ds → toPyL ds = some p → DpAll K F vs p
  | _, [], _, h, e => by cases h; simp [toPyL] at e; subst e; exact .nil
  | _, d :: r, _, h, e => by
    cases h with
    | cons h1 h2 =>
      simp only [toPyL, Option.bind_eq_some_iff, Option.map_eq_some_iff] at e
      obtain ⟨q, e1, s, e2, rfl⟩ := e
      exact .cons (dp_of h1 e1) (dpL_of h2 e2)
end
def gEq (d e : D) : Option D := (toPy d).bind fun p => (toPy e).bind fun q => if SeqAt.shaped p = true ∧ SeqAt.shaped q = true then some (.bl (PyData.eqv p q)) else none
def gNe (d e : D) : Option D := (toPy d).bind fun p => (toPy e).bind fun q => if SeqAt.shaped p = true ∧ SeqAt.shaped q = true then some (.bl (!PyData.eqv p q)) else none
theorem vop_eqD {K : PySem.W.Frag} : VOp K (rEqD K) gEq := by
  intro F H x y a b c Q s ra rb hg q
  simp only [gEq, Option.bind_eq_some_iff] at hg
  obtain ⟨p, e1, r, e2, e3⟩ := hg
  split at e3
  · rename_i hs
    cases e3
    exact ⟨p, r, dp_of (ra.mono s) e1, dp_of (rb.mono s) e2, hs.1, hs.2, q _ F H (Ste.refl s) (.bl _)⟩
  · cases e3
theorem vop_neD {K : PySem.W.Frag} : VOp K (rNeD K) gNe := by
  intro F H x y a b c Q s ra rb hg q
  simp only [gNe, Option.bind_eq_some_iff] at hg
  obtain ⟨p, e1, r, e2, e3⟩ := hg
  split at e3
  · rename_i hs
    cases e3
    exact ⟨p, r, dp_of (ra.mono s) e1, dp_of (rb.mono s) e2, hs.1, hs.2, q _ F H (Ste.refl s) (.bl _)⟩
  · cases e3
/-- == of two scalars of one kind -/
def gEqS : D → D → Option D
  | .int i, .int j => some (.bl (decide (i = j)))
  | .str i, .str j => some (.bl (decide (i = j)))
  | .bl i, .bl j => some (.bl (decide (i = j)))
  | .non, .int _ => some (.bl false)
  | .int _, .non => some (.bl false)
  | _, _ => none
def gNeS : D → D → Option D
  | .int i, .int j => some (.bl (!decide (i = j)))
  | .str i, .str j => some (.bl (!decide (i = j)))
  | .bl i, .bl j => some (.bl (!decide (i = j)))
  | _, _ => none
theorem vop_eqS {K : PySem.W.Frag} : VOp K rEq gEqS := by
  intro F H x y a b c Q s ra rb hg q
  unfold gEqS at hg
  split at hg
  · rename_i i j
    cases hg
    rw [rep_int ra, rep_int rb]
    refine ⟨rfl, ?_⟩
    have e : decide (V.int i = V.int j) = decide (i = j) := decide_eq_decide.mpr ⟨fun h => V.int.inj h, fun h => by rw [h]⟩
    rw [e]
    exact q _ F H (Ste.refl s) (.bl _)
  · rename_i i j
    cases hg
    rw [rep_str ra, rep_str rb]
    refine ⟨rfl, ?_⟩
    have e : decide (V.str i = V.str j) = decide (i = j) := decide_eq_decide.mpr ⟨fun h => V.str.inj h, fun h => by rw [h]⟩
    rw [e]
    exact q _ F H (Ste.refl s) (.bl _)
  · rename_i i j
    cases hg
    rw [rep_bl ra, rep_bl rb]
    refine ⟨rfl, ?_⟩
    have e : decide (V.bl i = V.bl j) = decide (i = j) := decide_eq_decide.mpr ⟨fun h => V.bl.inj h, fun h => by rw [h]⟩
    rw [e]
    exact q _ F H (Ste.refl s) (.bl _)
  · rename_i j
    cases hg
    rw [rep_non ra, rep_int rb]
    refine ⟨rfl, ?_⟩
    rw [decide_eq_false (show ¬ (V.non = V.int j) from fun h => by cases h)]
    exact q _ F H (Ste.refl s) (.bl _)
  · rename_i j
    cases hg
    rw [rep_int ra, rep_non rb]
    refine ⟨rfl, ?_⟩
    rw [decide_eq_false (show ¬ (V.int j = V.non) from fun h => by cases h)]
    exact q _ F H (Ste.refl s) (.bl _)
  · cases hg
theorem vop_neS {K : PySem.W.Frag} : VOp K rNe gNeS := by
  intro F H x y a b c Q s ra rb hg q
  unfold gNeS at hg
  split at hg
  · rename_i i j
    cases hg
    rw [rep_int ra, rep_int rb]
    refine ⟨rfl, ?_⟩
    have e : decide (V.int i = V.int j) = decide (i = j) := decide_eq_decide.mpr ⟨fun h => V.int.inj h, fun h => by rw [h]⟩
    rw [e]
    exact q _ F H (Ste.refl s) (.bl _)
  · rename_i i j
    cases hg
    rw [rep_str ra, rep_str rb]
    refine ⟨rfl, ?_⟩
    have e : decide (V.str i = V.str j) = decide (i = j) := decide_eq_decide.mpr ⟨fun h => V.str.inj h, fun h => by rw [h]⟩
    rw [e]
    exact q _ F H (Ste.refl s) (.bl _)
  · rename_i i j
    cases hg
    rw [rep_bl ra, rep_bl rb]
    refine ⟨rfl, ?_⟩
    have e : decide (V.bl i = V.bl j) = decide (i = j) := decide_eq_decide.mpr ⟨fun h => V.bl.inj h, fun h => by rw [h]⟩
    rw [e]
    exact q _ F H (Ste.refl s) (.bl _)
  · cases hg
/-- is None -/
def gIsN (neg : Bool) : D → D → Option D
  | .rf _, _ => none
  | .non, .non => some (.bl (!neg))
  | _, .non => some (.bl neg)
  | _, _ => none
theorem isn_val {K : PySem.W.Frag} {F : Hp} {v : V} {d : D} (h : RepD K F v d) (h1 : ∀ x, d ≠ .rf x) (h2 : d ≠ .non) : v ≠ .non := by
  cases h with
  | non => exact absurd rfl h2
  | rf v => exact absurd rfl (h1 v)
  | bl b => exact fun z => by cases z
  | int b => exact fun z => by cases z
  | str b => exact fun z => by cases z
  | tup a b => exact fun z => by cases z
  | lst a b => exact fun z => by cases z
  | rdl a b => exact fun z => by cases z
  | dct a => exact fun z => by cases z
  | fn a => exact fun z => by cases z
  | dk a b c => exact fun z => by cases z
  | dt a b c => exact fun z => by cases z
  | ob n a b c => exact fun z => by cases z
theorem vop_isN {K : PySem.W.Frag} : VOp K (fun x y H Q => y = .non ∧ Q (.bl (decide (x = .non))) H) (gIsN false) := by
  intro F H x y a b c Q s ra rb hg q
  unfold gIsN at hg
  split at hg
  · cases hg
  · cases hg
    refine ⟨rep_non rb, ?_⟩
    rw [rep_non ra]
    exact q _ F H (Ste.refl s) (.bl _)
  · rename_i n1 n2
    cases hg
    refine ⟨rep_non rb, ?_⟩
    rw [decide_eq_false (isn_val ra (fun x z => n1 x z) (fun z => n2 z))]
    exact q _ F H (Ste.refl s) (.bl _)
  · cases hg
theorem vop_notN {K : PySem.W.Frag} : VOp K (fun x y H Q => y = .non ∧ Q (.bl (!decide (x = .non))) H) (gIsN true) := by
  intro F H x y a b c Q s ra rb hg q
  unfold gIsN at hg
  split at hg
  · cases hg
  · cases hg
    refine ⟨rep_non rb, ?_⟩
    rw [rep_non ra]
    exact q _ F H (Ste.refl s) (.bl _)
  · rename_i n1 n2
    cases hg
    refine ⟨rep_non rb, ?_⟩
    rw [decide_eq_false (isn_val ra (fun x z => n1 x z) (fun z => n2 z))]
    exact q _ F H (Ste.refl s) (.bl _)
  · cases hg
/-! ### in -/
def flatToV : D → Option V
  | .non => some .non
  | .bl b => some (.bl b)
  | .int i => some (.int i)
  | .str x => some (.str x)
  | _ => none
def flatToVs : List D → Option (List V)
  | [] => some []
  | d :: r => (flatToV d).bind fun p => (flatToVs r).map fun q => p :: q
theorem flat_eq {K : PySem.W.Frag} {F : Hp} {v w : V} {d : D} (h : RepD K F v d) (e : flatToV d = some w) : v = w ∧ flatV w = true := by
  cases h <;> simp [flatToV] at e <;> subst e <;> exact ⟨rfl, rfl⟩
theorem flats_eq {K : PySem.W.Frag} {F : Hp} : ∀ {vs ws : List V} {ds : List D}, RepL K F vs ds → flatToVs ds = some ws → vs = ws ∧ ws.all flatV = true
  | _, _, [], h, e => by cases h; simp [flatToVs] at e; subst e; exact ⟨rfl, rfl⟩
  | _, _, d :: r, h, e => by
    cases h with
    | cons h1 h2 =>
      simp only [flatToVs, Option.bind_eq_some_iff, Option.map_eq_some_iff] at e
      obtain ⟨q, e1, s, e2, rfl⟩ := e
      obtain ⟨a, b⟩ := flat_eq h1 e1
      obtain ⟨c, d⟩ := flats_eq h2 e2
      exact ⟨by rw [a, c], by simp [b, d]⟩
def seqOf : D → Option (List D)
  | .tup ds => some ds
  | .lst ds => some ds
  | .rdl ds => some ds
  | _ => none
theorem rep_seq {K : PySem.W.Frag} {F : Hp} {v : V} {d : D} {ds : List D} (h : RepD K F v d) (e : seqOf d = some ds) : ∃ a xs, v = .ref a ∧ (SqL K F a xs ∨ SqT K F a xs) ∧ RepL K F xs ds := by
  cases h with
  | tup a b => simp [seqOf] at e; subst e; exact ⟨_, _, rfl, .inr a, b⟩
  | lst a b => simp [seqOf] at e; subst e; exact ⟨_, _, rfl, .inl (.inl (.inl a)), b⟩
  | rdl a b => simp [seqOf] at e; subst e; exact ⟨_, _, rfl, .inl a, b⟩
  | _ => simp [seqOf] at e
theorem seq_up {K : PySem.W.Frag} {F H : Hp} {a : Addr} {xs : List V} (s : Same F H) (h : SqL K F a xs ∨ SqT K F a xs) : SqL K H a xs ∨ SqT K H a xs := by
  rcases h with h | h
  · exact .inl (Same.seq s h)
  · exact .inr (seqT s h)
def gIn (neg : Bool) (d e : D) : Option D := (flatToV d).bind fun x => (seqOf e).bind fun es => (flatToVs es).map fun ws => .bl (if neg then !inV x ws else inV x ws)
theorem vop_in {K : PySem.W.Frag} (neg : Bool) : VOp K (rIn K neg) (gIn neg) := by
  intro F H x y a b c Q s ra rb hg q
  simp only [gIn, Option.bind_eq_some_iff, Option.map_eq_some_iff] at hg
  obtain ⟨v, e1, es, e2, ws, e3, rfl⟩ := hg
  obtain ⟨p, xs, rfl, h, r⟩ := rep_seq rb e2
  obtain ⟨h1, h2⟩ := flat_eq ra e1
  obtain ⟨h3, h4⟩ := flats_eq r e3
  subst h1 h3
  exact ⟨p, xs, rfl, seq_up s h, h2, h4, q _ F H (Ste.refl s) (.bl _)⟩
/-! ### subscripts, slices -/
def gIx : D → D → Option D
  | .str z, .int i => if z.length ≤ 1000000 then (atI z.cps.toList i).map fun c => .str ⟨#[c]⟩ else none
  | d, .int i => (seqOf d).bind fun ds => atI ds i
  | _, _ => none
theorem atI_rep {K : PySem.W.Frag} {F : Hp} {xs : List V} {ds : List D} {i : Int} {d : D} (r : RepL K F xs ds) (h : atI ds i = some d) : ∃ v, atI xs i = some v ∧ RepD K F v d := by
  unfold atI at h ⊢
  rw [r.length]
  cases e : ixN ds.length i with
  | none => rw [e] at h; cases h
  | some j =>
    rw [e] at h
    exact r.get h
theorem vop_ix {K : PySem.W.Frag} : VOp K (rIx K) gIx := by
  intro F H x y a b c Q s ra rb hg q
  unfold gIx at hg
  split at hg
  · rename_i z i
    split at hg
    · rename_i hz
      simp only [Option.map_eq_some_iff] at hg
      obtain ⟨cp, e1, rfl⟩ := hg
      exact .inr (.inr ⟨z, i, cp, rep_str ra, rep_int rb, line_big hz, e1, q _ F H (Ste.refl s) (.str _)⟩)
    · cases hg
  · rename_i i hn
    simp only [Option.bind_eq_some_iff] at hg
    obtain ⟨ds, e1, e2⟩ := hg
    obtain ⟨p, xs, rfl, h, r⟩ := rep_seq ra e1
    obtain ⟨v, h1, h2⟩ := atI_rep r e2
    rcases seq_up s h with h | h
    · exact .inl ⟨p, xs, i, v, rfl, rep_int rb, h, h1, q _ F H (Ste.refl s) h2⟩
    · exact .inr (.inl ⟨p, xs, i, v, rfl, rep_int rb, h, h1, q _ F H (Ste.refl s) h2⟩)
  · cases hg
section
variable {X : Cx} {C : Ct} {W : WX} {a b c e : Expr} {pos : Pos} {f g h : Mo D}
theorem ev_eq (hu : X.A.units + 64 < cLine) (ha : EvD X C W a f) (hb : EvD X C W b g) : EvD X C W (.Compare a [.Eq] [b] pos) (mOp gEq f g) := ev_cmp (op_eqD hu) (nomark _) vop_eqD ha hb
theorem ev_ne (hu : X.A.units + 64 < cLine) (ha : EvD X C W a f) (hb : EvD X C W b g) : EvD X C W (.Compare a [.NotEq] [b] pos) (mOp gNe f g) := ev_cmp (op_neD hu) (nomark _) vop_neD ha hb
theorem ev_eqS (ha : EvD X C W a f) (hb : EvD X C W b g) : EvD X C W (.Compare a [.Eq] [b] pos) (mOp gEqS f g) := ev_cmp op_eq (nomark _) vop_eqS ha hb
theorem ev_neS (ha : EvD X C W a f) (hb : EvD X C W b g) : EvD X C W (.Compare a [.NotEq] [b] pos) (mOp gNeS f g) := ev_cmp op_ne (nomark _) vop_neS ha hb
theorem ev_isN (ha : EvD X C W a f) (hb : EvD X C W b g) : EvD X C W (.Compare a [.Is] [b] pos) (mOp (gIsN false) f g) := ev_cmp op_isN (nomark _) vop_isN ha hb
theorem ev_notN (ha : EvD X C W a f) (hb : EvD X C W b g) : EvD X C W (.Compare a [.IsNot] [b] pos) (mOp (gIsN true) f g) := ev_cmp op_notN (nomark _) vop_notN ha hb
theorem ev_in (hm : behindInMarks .In b = false) (ha : EvD X C W a f) (hb : EvD X C W b g) : EvD X C W (.Compare a [.In] [b] pos) (mOp (gIn false) f g) := ev_cmp op_in_seq hm (vop_in false) ha hb
theorem ev_notIn (hm : behindInMarks .NotIn b = false) (ha : EvD X C W a f) (hb : EvD X C W b g) : EvD X C W (.Compare a [.NotIn] [b] pos) (mOp (gIn true) f g) := ev_cmp op_notIn_seq hm (vop_in true) ha hb
theorem ev_item (hm : PlainIx b) (ha : EvD X C W a f) (hb : EvD X C W b g) : EvD X C W (.Subscript a b pos) (mOp gIx f g) := ev_ix ix_seq hm vop_ix ha hb fun _ _ p1 p2 => pe_ix ix_seq p1 p2 hm
def VO (K : PySem.W.Frag) (C : Ct) (W : WX) (to : TO) (f : Mo (Option Int)) : Prop := ∀ F H σ ε Q, Rep K C F H σ ε → Good (f ε) (fun o ε' => ∀ F' H', Rep K C F' H' σ ε' → Stp σ ε ε' F H F' H' → Q o H') (ExP K C W F H σ ε) → to σ H Q
def EoD (X : Cx) (C : Ct) (W : WX) (e : Option Expr) (f : Mo (Option Int)) : Prop := ∃ to, PO X e to ∧ VO X.K C W to f
def asI : D → Option Int
  | .int i => some i
  | _ => none
theorem eo_none : EoD X C W none (pur none) := ⟨_, po_none, fun F H σ ε Q R q => q F H R Stp.refl⟩
theorem eo_some {e : Expr} (h : EvD X C W e f) : EoD X C W (some e) (bnd f fun d => lft ((asI d).map some)) := by
  obtain ⟨te, p1, s1⟩ := h
  refine ⟨_, po_some p1, fun F H σ ε Q R q => ?_⟩
  refine s1 F H σ ε _ R (q.bind.imp (fun d e q1 v F1 H1 R1 st1 r1 => ?_) fun x e z => z)
  cases d with
  | int i => exact ⟨i, rep_int r1, q1 F1 H1 R1 st1⟩
  | _ => exact q1.elim
def cutD (ds : List D) (lo hi : Option Int) : List D := (ds.drop (HT.sIx ds.length 0 lo)).take (HT.sIx ds.length ds.length hi - HT.sIx ds.length 0 lo)
theorem rep_cut {K : PySem.W.Frag} {F : Hp} {xs : List V} {ds : List D} (r : RepL K F xs ds) (lo hi : Option Int) : RepL K F (cutV xs lo hi) (cutD ds lo hi) := by
  unfold cutV cutD
  rw [r.length]
  exact (r.drop _).take _
def gSlL : D → Option Int → Option Int → Option D
  | .lst ds, lo, hi => some (.lst (cutD ds lo hi))
  | .rdl ds, lo, hi => some (.lst (cutD ds lo hi))
  | _, _, _ => none
def gSlT : D → Option Int → Option Int → Option D
  | .tup ds, lo, hi => some (.tup (cutD ds lo hi))
  | _, _, _ => none
def gSlS : D → Option Int → Option Int → Option D
  | .str z, lo, hi => if z.length ≤ 1000000 then some (.str (cutS z lo hi)) else none
  | _, _, _ => none
def VSl (K : PySem.W.Frag) (r : V → Option Int → Option Int → Hp → VK → Prop) (g : D → Option Int → Option Int → Option D) : Prop := ∀ F H x a lo hi c Q, Same F H → RepD K F x a → g a lo hi = some c → (∀ v F' H', Ste F H F' H' → RepD K F' v c → Q v H') → r x lo hi H Q
def mSl (g : D → Option Int → Option Int → Option D) (f : Mo D) (fl fh : Mo (Option Int)) : Mo D := bnd f fun d => bnd fl fun lo => bnd fh fun hi => lft (g d lo hi)
theorem ev_sl {r : V → Option Int → Option Int → Hp → VK → Prop} {g : D → Option Int → Option Int → Option D} {lo hi : Option Expr} {fl fh : Mo (Option Int)} {p2 : Pos} (hr : SlR X r) (hv : VSl X.K r g) (ha : EvD X C W a f) (hl : EoD X C W lo fl) (hh : EoD X C W hi fh) :
    EvD X C W (.Subscript a (.Slice lo hi none p2) pos) (mSl g f fl fh) := by
  obtain ⟨ta, p0, s0⟩ := ha
  obtain ⟨tl, p1, s1⟩ := hl
  obtain ⟨th, p2', s2⟩ := hh
  refine ⟨_, pe_slice hr p0 p1 p2', fun F H σ ε Q R q => ?_⟩
  refine s0 F H σ ε _ R (q.bind.imp (fun d e q1 v F1 H1 R1 st1 r1 => ?_) fun x e z => z)
  refine s1 F1 H1 σ e _ R1 (q1.bind.imp (fun l e2 q2 F2 H2 R2 st2 => ?_) fun x e z => z.imp st1)
  refine s2 F2 H2 σ e2 _ R2 (q2.bind.imp (fun u e3 q3 F3 H3 R3 st3 => ?_) fun x e z => z.imp (st1.trans st2))
  unfold lft at q3
  cases hg : g d l u with
  | none => rw [hg] at q3; exact q3.elim
  | some c =>
    rw [hg] at q3
    exact hv F3 H3 v d l u c Q R3.fh ((r1.mono st2.ff).mono st3.ff) hg fun w F4 H4 st4 r4 => q3 w F4 H4 (R3.step st4) (((st1.trans st2).trans st3).trans st4.stp) r4
theorem vsl_list {K : PySem.W.Frag} : VSl K (rSlL K) gSlL := by
  intro F H x a lo hi c Q s r hg q
  unfold gSlL at hg
  split at hg
  · cases hg
    obtain ⟨p, xs, rfl, h, r2⟩ := rep_lst r
    refine ⟨p, xs, rfl, .inl (.inl (s _ _ h)), fun l hl => ?_⟩
    have st := Ste.laid (o := .lst (cutV xs lo hi)) s hl
    exact q _ _ _ st (.lst upd_same ((rep_cut r2 lo hi).mono st.ff))
  · cases hg
    obtain ⟨p, xs, rfl, h, r2⟩ := rep_rdl r
    refine ⟨p, xs, rfl, Same.seq s h, fun l hl => ?_⟩
    have st := Ste.laid (o := .lst (cutV xs lo hi)) s hl
    exact q _ _ _ st (.lst upd_same ((rep_cut r2 lo hi).mono st.ff))
  · cases hg
theorem cut_whole {ds : List D} {lo hi : Option Int} (h : HT.sIx ds.length 0 lo = 0 ∧ HT.sIx ds.length ds.length hi = ds.length) : cutD ds lo hi = ds := by
  unfold cutD
  rw [h.1, h.2]
  simp
theorem vsl_tup {K : PySem.W.Frag} : VSl K (rSlA K) gSlT := by
  intro F H x a lo hi c Q s r hg q
  unfold gSlT at hg
  split at hg
  · cases hg
    obtain ⟨p, xs, rfl, h, r2⟩ := rep_tup r
    refine ⟨p, xs, rfl, seqT s h, fun hw => ?_, fun hw l hl => ?_⟩
    · rw [r2.length] at hw
      rw [cut_whole hw] at q
      exact q _ F H (Ste.refl s) (.tup h r2)
    · have st := Ste.laid (o := .tup (cutV xs lo hi)) s hl
      exact q _ _ _ st (.tup (.inl (.inl upd_same)) ((rep_cut r2 lo hi).mono st.ff))
  · cases hg
theorem vsl_str {K : PySem.W.Frag} : VSl K rSlS gSlS := by
  intro F H x a lo hi c Q s r hg q
  unfold gSlS at hg
  split at hg
  · split at hg
    · rename_i hz
      cases hg
      exact ⟨_, rep_str r, line_big hz, q _ F H (Ste.refl s) (.str _)⟩
    · cases hg
  · cases hg
end
/-! ### + of texts, lists, tuples -/
def gCatS : D → D → Option D
  | .str a, .str b => if a.length + b.length ≤ 1000000 then some (.str (a ++ b)) else none
  | _, _ => none
def gCatL : D → D → Option D
  | .lst a, .lst b => if a.length + b.length ≤ 1000000 then some (.lst (a ++ b)) else none
  | _, _ => none
def gCatT : D → D → Option D
  | .tup a, .tup b => if a.length + b.length ≤ 1000000 then some (.tup (a ++ b)) else none
  | _, _ => none
theorem vop_catS {K : PySem.W.Frag} : VOp K (fun x y H Q => ∃ i j, x = .str i ∧ y = .str j ∧ i.length + j.length ≤ sizeLine ∧ Q (.str (i ++ j)) H) gCatS := by
  intro F H x y a b c Q s ra rb hg q
  unfold gCatS at hg
  split at hg
  · split at hg
    · rename_i hz
      cases hg
      exact ⟨_, _, rep_str ra, rep_str rb, line_big hz, q _ F H (Ste.refl s) (.str _)⟩
    · cases hg
  · cases hg
theorem vop_catL {K : PySem.W.Frag} : VOp K rCat gCatL := by
  intro F H x y a b c Q s ra rb hg q
  unfold gCatL at hg
  split at hg
  · split at hg
    · rename_i hz
      cases hg
      obtain ⟨p, xs, rfl, h, r⟩ := rep_lst ra
      obtain ⟨p2, xs2, rfl, h2, r2⟩ := rep_lst rb
      refine ⟨p, p2, xs, xs2, rfl, rfl, s _ _ h, s _ _ h2, by rw [r.length, r2.length]; exact line_big hz, fun l hl => ?_⟩
      have st := Ste.laid (o := .lst (xs ++ xs2)) s hl
      exact q _ _ _ st (.lst upd_same ((r.append r2).mono st.ff))
    · cases hg
  · cases hg
theorem vop_catT {K : PySem.W.Frag} : VOp K (rCatA K) gCatT := by
  intro F H x y a b c Q s ra rb hg q
  unfold gCatT at hg
  split at hg
  · split at hg
    · rename_i hz
      cases hg
      obtain ⟨p, xs, rfl, h, r⟩ := rep_tup ra
      obtain ⟨p2, xs2, rfl, h2, r2⟩ := rep_tup rb
      refine ⟨p, p2, xs, xs2, rfl, rfl, seqT s h, seqT s h2, by rw [r.length, r2.length]; exact line_big hz, fun e => ?_, fun _ e => ?_, fun _ _ l hl => ?_⟩
      · subst e
        cases r
        exact q _ F H (Ste.refl s) (.tup h2 r2)
      · subst e
        cases r2
        rw [List.append_nil] at q
        exact q _ F H (Ste.refl s) (.tup h r)
      · have st := Ste.laid (o := .tup (xs ++ xs2)) s hl
        exact q _ _ _ st (.tup (.inl (.inl upd_same)) ((r.append r2).mono st.ff))
    · cases hg
  · cases hg
/-! ### built-ins -/
def gInt : D → Option D
  | .int i => some (.int i)
  | .bl b => some (.int (if b then 1 else 0))
  | _ => none
def gAbs : D → Option D
  | .int i => some (.int (if i < 0 then -i else i))
  | _ => none
def gMin2 := gI (fun _ _ => true) fun i j => .int (if j < i then j else i)
def gMax2 := gI (fun _ _ => true) fun i j => .int (if j > i then j else i)
def gStr : D → Option D
  | .int i => if i.natAbs.log2 < 1920 then some (.str (toString i)) else none
  | _ => none
def gTuple : D → Option D
  | .lst ds => some (.tup ds)
  | .rdl ds => some (.tup ds)
  | .tup ds => some (.tup ds)
  | _ => none
def gList : D → Option D
  | .lst ds => some (.lst ds)
  | .rdl ds => some (.lst ds)
  | .tup ds => some (.lst ds)
  | _ => none
theorem one_of {K : PySem.W.Frag} {F : Hp} {xs : List V} {ds : List D} {h : D → Option D} {c : D} (r : RepL K F xs ds) (hg : gOne h ds = some c) : ∃ x d, xs = [x] ∧ ds = [d] ∧ RepD K F x d ∧ h d = some c := by
  unfold gOne at hg
  split at hg
  · cases r with
    | cons r1 r2 => cases r2; exact ⟨_, _, rfl, rfl, r1, hg⟩
  · cases hg
theorem two_of {K : PySem.W.Frag} {F : Hp} {xs : List V} {ds : List D} {h : D → D → Option D} {c : D} (r : RepL K F xs ds) (hg : gTwo h ds = some c) : ∃ x y d e, xs = [x, y] ∧ ds = [d, e] ∧ RepD K F x d ∧ RepD K F y e ∧ h d e = some c := by
  unfold gTwo at hg
  split at hg
  · cases r with
    | cons r1 r2 => cases r2 with
      | cons r2 r3 => cases r3; exact ⟨_, _, _, _, rfl, rfl, r1, r2, hg⟩
  · cases hg
theorem gI_of {p : Int → Int → Bool} {h : Int → Int → D} {d e c : D} (hg : gI p h d e = some c) : ∃ i j, d = .int i ∧ e = .int j ∧ p i j = true ∧ c = h i j := by
  unfold gI at hg
  split at hg
  · split at hg
    · rename_i hp; cases hg; exact ⟨_, _, rfl, rfl, hp, rfl⟩
    · cases hg
  · cases hg
section
variable {K : PySem.W.Frag}
theorem vc_int : VCall K (fun xs H Q => (∃ i, xs = [.int i] ∧ Q (.int i) H) ∨ ∃ k, xs = [.bl k] ∧ Q (.int (if k then 1 else 0)) H) (gOne gInt) := by
  intro F H xs ds c Q s r hg q
  obtain ⟨x, d, rfl, rfl, rd, hd⟩ := one_of r hg
  unfold gInt at hd
  split at hd
  · cases hd; exact .inl ⟨_, by rw [rep_int rd], q _ F H (Ste.refl s) (.int _)⟩
  · cases hd; exact .inr ⟨_, by rw [rep_bl rd], q _ F H (Ste.refl s) (.int _)⟩
  · cases hd
theorem vc_abs : VCall K (fun xs H Q => ∃ i, xs = [.int i] ∧ Q (.int (if i < 0 then -i else i)) H) (gOne gAbs) := by
  intro F H xs ds c Q s r hg q
  obtain ⟨x, d, rfl, rfl, rd, hd⟩ := one_of r hg
  unfold gAbs at hd
  split at hd
  · cases hd; exact ⟨_, by rw [rep_int rd], q _ F H (Ste.refl s) (.int _)⟩
  · cases hd
theorem vc_min2 : VCall K (fun xs H Q => ∃ i j, xs = [.int i, .int j] ∧ Q (.int (if j < i then j else i)) H) (gTwo gMin2) := by
  intro F H xs ds c Q s r hg q
  obtain ⟨x, y, d, e, rfl, rfl, rd, re, hd⟩ := two_of r hg
  obtain ⟨i, j, rfl, rfl, _, rfl⟩ := gI_of hd
  exact ⟨i, j, by rw [rep_int rd, rep_int re], q _ F H (Ste.refl s) (.int _)⟩
theorem vc_max2 : VCall K (fun xs H Q => ∃ i j, xs = [.int i, .int j] ∧ Q (.int (if j > i then j else i)) H) (gTwo gMax2) := by
  intro F H xs ds c Q s r hg q
  obtain ⟨x, y, d, e, rfl, rfl, rd, re, hd⟩ := two_of r hg
  obtain ⟨i, j, rfl, rfl, _, rfl⟩ := gI_of hd
  exact ⟨i, j, by rw [rep_int rd, rep_int re], q _ F H (Ste.refl s) (.int _)⟩
theorem vc_str : VCall K (fun xs H Q => ∃ i, xs = [.int i] ∧ i.natAbs.log2 < 1920 ∧ Q (.str (toString i)) H) (gOne gStr) := by
  intro F H xs ds c Q s r hg q
  obtain ⟨x, d, rfl, rfl, rd, hd⟩ := one_of r hg
  unfold gStr at hd
  split at hd
  · split at hd
    · rename_i hz; cases hd; exact ⟨_, by rw [rep_int rd], hz, q _ F H (Ste.refl s) (.str _)⟩
    · cases hd
  · cases hd
theorem vc_tuple : VCall K (fun xs H Q => ∃ p ys, xs = [.ref p] ∧ ((SqL K H p ys ∧ ∀ l, H l = none → Q (.ref l) (upd H l (.tup ys))) ∨ (SqT K H p ys ∧ Q (.ref p) H))) (gOne gTuple) := by
  intro F H xs ds c Q s r hg q
  obtain ⟨x, d, rfl, rfl, rd, hd⟩ := one_of r hg
  unfold gTuple at hd
  split at hd
  · cases hd
    obtain ⟨p, xs, rfl, h, r⟩ := rep_seqs rd
    refine ⟨p, xs, rfl, .inl ⟨Same.seq s h, fun l hl => ?_⟩⟩
    have st := Ste.laid (o := .tup xs) s hl
    exact q _ _ _ st (.tup (.inl (.inl upd_same)) (r.mono st.ff))
  · cases hd
    obtain ⟨p, xs, rfl, h, r⟩ := rep_rdl rd
    refine ⟨p, xs, rfl, .inl ⟨Same.seq s h, fun l hl => ?_⟩⟩
    have st := Ste.laid (o := .tup xs) s hl
    exact q _ _ _ st (.tup (.inl (.inl upd_same)) (r.mono st.ff))
  · cases hd
    obtain ⟨p, xs, rfl, h, r⟩ := rep_tup rd
    exact ⟨p, xs, rfl, .inr ⟨seqT s h, q _ F H (Ste.refl s) rd⟩⟩
  · cases hd
theorem vc_list : VCall K (fun xs H Q => ∃ p ys, xs = [.ref p] ∧ (SqL K H p ys ∨ SqT K H p ys) ∧ ∀ l, H l = none → Q (.ref l) (upd H l (.lst ys))) (gOne gList) := by
  intro F H xs ds c Q s r hg q
  obtain ⟨x, d, rfl, rfl, rd, hd⟩ := one_of r hg
  obtain ⟨es, he, hc⟩ : ∃ es, seqOf d = some es ∧ c = .lst es := by
    unfold gList at hd
    split at hd <;> cases hd <;> exact ⟨_, rfl, rfl⟩
  subst hc
  obtain ⟨p, xs, rfl, h, r⟩ := rep_seq rd he
  refine ⟨p, xs, rfl, seq_up s h, fun l hl => ?_⟩
  have st := Ste.laid (o := .lst xs) s hl
  exact q _ _ _ st (.lst upd_same (r.mono st.ff))
/-! isinstance(x, T), T of the built-ins -/
def tyName : D → Option String
  | .non => some "NoneType" | .bl _ => some "bool" | .int _ => some "int" | .str _ => some "str" | .tup _ => some "tuple" | .lst _ => some "list" | .rdl _ => some "list" | .dct => some "dict" | .dk _ _ => some "dict" | .dt _ _ => some "dict" | .ob _ _ _ => none | .fn _ => none | .rf _ => none
theorem ty_of {F H : Hp} {v : V} {d : D} {n : String} (s : Same F H) (r : RepD K F v d) (e : tyName d = some n) : TyX K H v (.type n) := by
  cases r with
  | non => cases e; exact .base .non
  | bl b => cases e; exact .base (.bl b)
  | int b => cases e; exact .base (.int b)
  | str b => cases e; exact .base (.str b)
  | tup h _ =>
    cases e
    rcases seqT s h with (h | ⟨o, h⟩) | ⟨o, _, _, h, c, _⟩
    · exact .base (.tup h)
    · exact .fTuple h
    · exact .kTuple h c
  | lst h _ => cases e; exact .base (.lst (s _ _ h))
  | rdl h _ =>
    cases e
    rcases Same.seq s h with (h | ⟨o, h⟩) | ⟨o, _, _, h, c, _⟩
    · exact .base (.lst h)
    · exact .base (.frz h)
    · exact .kList h c
  | dct h => cases e; exact .base (.dK (s _ _ h))
  | fn h => cases e
  | dk h _ _ => cases e; exact .base (.dK (s _ _ h))
  | dt h _ _ => cases e; exact .base (.dT (s _ _ h))
  | ob n h _ _ => cases e
  | rf v => cases e
def gIsi : List D → Option D
  | [d, .rf (.ty n)] => (tyName d).bind fun t => (kitB t n).map .bl
  | _ => none
theorem vc_isi : VCall K (rIsi K) gIsi := by
  intro F H xs ds c Q s r hg q
  unfold gIsi at hg
  split at hg
  · simp only [Option.bind_eq_some_iff, Option.map_eq_some_iff] at hg
    obtain ⟨t, e1, b, e2, rfl⟩ := hg
    cases r with
    | cons r1 r2 => cases r2 with
      | cons r2 r3 =>
        cases r3
        cases r2
        exact ⟨_, _, _, _, b, rfl, .ty _, ty_of s r1 e1, kit_ty e2, q _ F H (Ste.refl s) (.bl b)⟩
  · cases hg
/-! sorted, max, min of lists of ints -/
def intsOf : List D → Option (List Int)
  | [] => some []
  | .int i :: r => (intsOf r).map fun q => i :: q
  | _ => none
theorem ints_eq : ∀ {ds : List D} {ns : List Int}, intsOf ds = some ns → ds = ns.map D.int
  | [], _, e => by simp [intsOf] at e; subst e; rfl
  | .int i :: r, _, e => by
    simp only [intsOf, Option.map_eq_some_iff] at e
    obtain ⟨q, e1, rfl⟩ := e
    rw [ints_eq e1]; rfl
  | .non :: r, _, e => by simp [intsOf] at e
  | .bl _ :: r, _, e => by simp [intsOf] at e
  | .str _ :: r, _, e => by simp [intsOf] at e
  | .tup _ :: r, _, e => by simp [intsOf] at e
  | .lst _ :: r, _, e => by simp [intsOf] at e
  | .rdl _ :: r, _, e => by simp [intsOf] at e
  | .rf _ :: r, _, e => by simp [intsOf] at e
  | .dct :: r, _, e => by simp [intsOf] at e
  | .fn _ :: r, _, e => by simp [intsOf] at e
  | .dk _ _ :: r, _, e => by simp [intsOf] at e
  | .dt _ _ :: r, _, e => by simp [intsOf] at e
  | .ob _ _ _ :: r, _, e => by simp [intsOf] at e
def listInts : D → Option (List Int)
  | .lst ds => intsOf ds
  | .rdl ds => intsOf ds
  | _ => none
theorem list_ints {F : Hp} {v : V} {d : D} {ns : List Int} (r : RepD K F v d) (e : listInts d = some ns) : ∃ a, v = .ref a ∧ SqL K F a (ns.map V.int) := by
  cases r with
  | lst h r => have := ints_eq e; subst this; rw [RepL.ints r] at h; exact ⟨_, rfl, .inl (.inl h)⟩
  | rdl h r => have := ints_eq e; subst this; rw [RepL.ints r] at h; exact ⟨_, rfl, h⟩
  | _ => cases e
def ins1 (x : Int) : List Int → List Int
  | [] => [x]
  | y :: r => if x ≤ y then x :: y :: r else y :: ins1 x r
def sortI : List Int → List Int
  | [] => []
  | x :: r => ins1 x (sortI r)
theorem ins1_perm (x : Int) : ∀ l, (ins1 x l).Perm (x :: l)
  | [] => .refl _
  | y :: r => by
    unfold ins1
    split
    · exact .refl _
    · exact ((ins1_perm x r).cons y).trans (.swap x y r)
theorem sortI_perm : ∀ l, (sortI l).Perm l
  | [] => .refl _
  | x :: r => (ins1_perm x (sortI r)).trans ((sortI_perm r).cons x)
theorem ins1_pw (x : Int) : ∀ l, l.Pairwise (· ≤ ·) → (ins1 x l).Pairwise (· ≤ ·)
  | [], _ => by simp [ins1]
  | y :: r, h => by
    have h1 := List.pairwise_cons.mp h
    unfold ins1
    split
    · rename_i hxy
      refine List.pairwise_cons.mpr ⟨fun z hz => ?_, h⟩
      rcases List.mem_cons.mp hz with e | e
      · rw [e]; exact hxy
      · exact Int.le_trans hxy (h1.1 z e)
    · rename_i hxy
      refine List.pairwise_cons.mpr ⟨fun z hz => ?_, ins1_pw x r h1.2⟩
      rcases List.mem_cons.mp ((ins1_perm x r).mem_iff.mp hz) with e | e
      · rw [e]; omega
      · exact h1.1 z e
theorem sortI_pw : ∀ l, (sortI l).Pairwise (· ≤ ·)
  | [] => .nil
  | x :: r => ins1_pw x _ (sortI_pw r)
def gSorted (d : D) : Option D := (listInts d).map fun ns => .lst ((sortI ns).map D.int)
theorem vc_sorted : VCall K (fun vs H Q => ∃ (a : Addr) (ns : List Int), vs = [V.ref a] ∧ SqL K H a (ns.map V.int) ∧ ∀ (ns' : List Int) (p : Addr), ns'.Perm ns → ns'.Pairwise (· ≤ ·) → H p = none → Q (.ref p) (upd H p (.lst (ns'.map V.int)))) (gOne gSorted) := by
  intro F H xs ds c Q s r hg q
  obtain ⟨x, d, rfl, rfl, rd, hd⟩ := one_of r hg
  simp only [gSorted, Option.map_eq_some_iff] at hd
  obtain ⟨ns, e1, rfl⟩ := hd
  obtain ⟨a, rfl, h⟩ := list_ints rd e1
  refine ⟨a, ns, rfl, Same.seq s h, fun ns' p h1 h2 h3 => ?_⟩
  have e : ns' = sortI ns := PySem.W.ksm_same (h1.trans (sortI_perm ns).symm) h2 (sortI_pw ns)
  subst e
  have st := Ste.laid (o := .lst ((sortI ns).map V.int)) s h3
  exact q _ _ _ st (.lst upd_same (RepL.of_ints _))
def maxI : List Int → Int
  | [] => 0
  | [x] => x
  | x :: r => if maxI r > x then maxI r else x
def minI : List Int → Int
  | [] => 0
  | [x] => x
  | x :: r => if minI r < x then minI r else x
theorem maxI_spec : ∀ l : List Int, l ≠ [] → maxI l ∈ l ∧ ∀ y ∈ l, y ≤ maxI l
  | [], h => absurd rfl h
  | [x], _ => by simp [maxI]
  | x :: y :: r, _ => by
    have ih := maxI_spec (y :: r) (by simp)
    have e : maxI (x :: y :: r) = if maxI (y :: r) > x then maxI (y :: r) else x := rfl
    rw [e]
    split
    · rename_i h
      exact ⟨List.mem_cons_of_mem _ ih.1, fun z hz => by
        rcases List.mem_cons.mp hz with q | q
        · omega
        · exact ih.2 z q⟩
    · rename_i h
      exact ⟨List.mem_cons_self, fun z hz => by
        rcases List.mem_cons.mp hz with q | q
        · omega
        · have := ih.2 z q; omega⟩
theorem minI_spec : ∀ l : List Int, l ≠ [] → minI l ∈ l ∧ ∀ y ∈ l, minI l ≤ y
  | [], h => absurd rfl h
  | [x], _ => by simp [minI]
  | x :: y :: r, _ => by
    have ih := minI_spec (y :: r) (by simp)
    have e : minI (x :: y :: r) = if minI (y :: r) < x then minI (y :: r) else x := rfl
    rw [e]
    split
    · rename_i h
      exact ⟨List.mem_cons_of_mem _ ih.1, fun z hz => by
        rcases List.mem_cons.mp hz with q | q
        · omega
        · exact ih.2 z q⟩
    · rename_i h
      exact ⟨List.mem_cons_self, fun z hz => by
        rcases List.mem_cons.mp hz with q | q
        · omega
        · have := ih.2 z q; omega⟩
def gMaxL (d : D) : Option D := (listInts d).bind fun ns => if 0 < ns.length then some (.int (maxI ns)) else none
def gMinL (d : D) : Option D := (listInts d).bind fun ns => if 0 < ns.length then some (.int (minI ns)) else none
theorem vc_maxL : VCall K (rMax K) (gOne gMaxL) := by
  intro F H xs ds c Q s r hg q
  obtain ⟨x, d, rfl, rfl, rd, hd⟩ := one_of r hg
  simp only [gMaxL, Option.bind_eq_some_iff] at hd
  obtain ⟨ns, e1, e2⟩ := hd
  split at e2
  · rename_i h0
    cases e2
    obtain ⟨a, rfl, h⟩ := list_ints rd e1
    refine ⟨a, ns, rfl, Same.seq s h, h0, fun m h1 h2 => ?_⟩
    have sp := maxI_spec ns (by intro z; rw [z] at h0; simp at h0)
    have e : m = maxI ns := Int.le_antisymm (sp.2 m h1) (h2 _ sp.1)
    subst e
    exact q _ F H (Ste.refl s) (.int _)
  · cases e2
theorem vc_minL : VCall K (rMin K) (gOne gMinL) := by
  intro F H xs ds c Q s r hg q
  obtain ⟨x, d, rfl, rfl, rd, hd⟩ := one_of r hg
  simp only [gMinL, Option.bind_eq_some_iff] at hd
  obtain ⟨ns, e1, e2⟩ := hd
  split at e2
  · rename_i h0
    cases e2
    obtain ⟨a, rfl, h⟩ := list_ints rd e1
    refine ⟨a, ns, rfl, Same.seq s h, h0, fun m h1 h2 => ?_⟩
    have sp := minI_spec ns (by intro z; rw [z] at h0; simp at h0)
    have e : m = minI ns := Int.le_antisymm (h2 _ sp.1) (sp.2 m h1)
    subst e
    exact q _ F H (Ste.refl s) (.int _)
  · cases e2
end
end DL

set_option Elab.async false
set_option linter.all false
set_option maxRecDepth 100000
namespace DL
open PySem PySem.Spec L2

/-! ### targets -/
def setL (ε : List Ent) : List Nat → List D → List Ent
  | i :: is, d :: ds => setL (ε.set i (.dat d)) is ds
  | _, _ => ε
def setS (σ : St) : List Nat → List V → St
  | i :: is, v :: vs => setS (σ.set i (some v)) is vs
  | _, _ => σ
theorem Rep.setL {K : PySem.W.Frag} {C : Ct} {F H : Hp} : ∀ {is : List Nat} {vs : List V} {ds : List D} {σ : St} {ε : List Ent}, Rep K C F H σ ε → RepL K F vs ds → Rep K C F H (setS σ is vs) (setL ε is ds)
  | [], _, _, σ, ε, R, _ => by unfold DL.setL setS; exact R
  | i :: is, _, _, σ, ε, R, .nil => by unfold DL.setL setS; exact R
  | i :: is, v :: vs, d :: ds, σ, ε, R, .cons h r => by
    show Rep K C F H (setS (σ.set i (some v)) is vs) (DL.setL (ε.set i (.dat d)) is ds)
    exact Rep.setL (R.set i h) r
/-- a target: the slots, the parts of what is assigned -/
structure Tg where
  is : List Nat
  parts : D → Option (List D)
def SdG (K : PySem.W.Frag) (g : TG) (t : Tg) : Prop := ∀ (F H : Hp) (σ : St) (v : V) (d : D) (ds : List D) (Q : St → Hp → Prop), Same F H → RepD K F v d → t.parts d = some ds → (∀ vs, RepL K F vs ds → Q (setS σ t.is vs) H) → g v σ H Q
def gdName (i : Nat) : Tg := ⟨[i], fun d => some [d]⟩
theorem sg_name {K : PySem.W.Frag} {i : Nat} : SdG K (gName i) (gdName i) := fun F H σ v d ds Q s r e q => by
  cases e
  exact q [v] (.cons r .nil)
def setN (σ : St) : List Nat → List V → Option St
  | i :: is, v :: vs => setN (σ.set i (some v)) is vs
  | [], [] => some σ
  | _, _ => none
/-- names in a tuple -/
def gNames : List Nat → TGs
  | [] => gNil
  | i :: is => gCons (gName i) (gNames is)
theorem gNames_run : ∀ {is : List Nat} {vs : List V} {σ : St} {H : Hp} {Q : St → Hp → Prop}, vs.length = is.length → Q (setS σ is vs) H → gNames is vs σ H Q
  | [], [], σ, H, Q, _, h => ⟨rfl, h⟩
  | i :: is, v :: vs, σ, H, Q, hl, h => ⟨v, vs, rfl, gNames_run (by simpa using hl) h⟩
  | [], _ :: _, _, _, _, hl, _ => by simp at hl
  | _ :: _, [], _, _, _, hl, _ => by simp at hl
def gdTup (is : List Nat) : Tg := ⟨is, fun d => match d with
  | .tup ds => if ds.length = is.length then some ds else none
  | _ => none⟩
theorem sg_tup {K : PySem.W.Frag} {is : List Nat} {n : Nat} (hn : n = is.length) : SdG K (gTup K n (gNames is)) (gdTup is) := fun F H σ v d ds Q s r e q => by
  unfold gdTup at e
  dsimp only at e
  split at e
  · split at e
    · rename_i hl
      cases e
      obtain ⟨a, xs, rfl, h, r2⟩ := rep_tup r
      exact ⟨a, xs, rfl, seqT s h, by rw [r2.length, hl, hn], gNames_run (by rw [r2.length]; exact hl) (q xs r2)⟩
    · cases e
  · cases e

/-! ### what is walked -/
structure ItOk (K : PySem.W.Frag) (F : Hp) (J : It) (ds : List D) : Prop where
  go : ∀ F' H' i, Same F F' → Same F' H' → i < ds.length → J.go i H'
  yl : ∀ F' H' i x H2, Same F F' → Same F' H' → i < ds.length → J.yld i H' x H2 → ∃ d F2, ds[i]? = some d ∧ Ste F' H' F2 H2 ∧ RepD K F2 x d
  st : ∀ F' H' i, Same F F' → Same F' H' → ds.length ≤ i → J.stop i H'
def SdI (K : PySem.W.Frag) (C : Ct) (W : WX) (wi : TI) (f : Mo (List D)) : Prop := ∀ F H σ ε R, Rep K C F H σ ε →
  Good (f ε) (fun ds ε' => ∀ J F' H', Rep K C F' H' σ ε' → Stp σ ε ε' F H F' H' → ItOk K F' J ds → R J H') (ExP K C W F H σ ε) → wi σ H R
def EiD (X : Cx) (C : Ct) (W : WX) (tg e : Expr) (f : Mo (List D)) : Prop := ∃ wi, PI X tg e wi ∧ SdI X.K C W wi f
theorem it_list {K : PySem.W.Frag} {F : Hp} {a : Addr} {xs : List V} {ds : List D} (h : SqL K F a xs) (r : RepL K F xs ds) : ItOk K F (Itl K a) ds where
  go := fun F' H' i s1 s2 hi => by
    have hx : i < xs.length := by rw [r.length]; exact hi
    exact ⟨xs, xs[i], Same.seq (s1.trans s2) h, List.getElem?_eq_getElem hx⟩
  yl := fun F' H' i x H2 s1 s2 hi ⟨e, y⟩ => by
    subst e
    have hx := y xs (Same.seq (s1.trans s2) h)
    obtain ⟨d, h1, h2⟩ := r.getV hx
    exact ⟨d, F', h1, Ste.refl s2, h2.mono s1⟩
  st := fun F' H' i s1 s2 hi => ⟨xs, Same.seq (s1.trans s2) h, by rw [r.length]; exact hi⟩
theorem it_tup {K : PySem.W.Frag} {F : Hp} {a : Addr} {xs : List V} {ds : List D} (h : SqT K F a xs) (r : RepL K F xs ds) : ItOk K F (Itt K a) ds where
  go := fun F' H' i s1 s2 hi => by
    have hx : i < xs.length := by rw [r.length]; exact hi
    exact ⟨xs, xs[i], seqT (s1.trans s2) h, List.getElem?_eq_getElem hx⟩
  yl := fun F' H' i x H2 s1 s2 hi ⟨e, y⟩ => by
    subst e
    have hx := y xs (seqT (s1.trans s2) h)
    obtain ⟨d, h1, h2⟩ := r.getV hx
    exact ⟨d, F', h1, Ste.refl s2, h2.mono s1⟩
  st := fun F' H' i s1 s2 hi => ⟨xs, seqT (s1.trans s2) h, by rw [r.length]; exact hi⟩
/-- the ints from lo on -/
def rangeD (lo : Int) (n : Nat) : List D := (List.range n).map fun (k : Nat) => D.int (lo + (k : Int))
theorem it_range {K : PySem.W.Frag} {F : Hp} {lo : Int} {n : Nat} : ItOk K F (Itr lo n) (rangeD lo n) where
  go := fun F' H' i _ _ hi => by
    unfold rangeD at hi
    rw [List.length_map, List.length_range] at hi
    exact hi
  yl := fun F' H' i x H2 _ s2 hi ⟨e, y⟩ => by
    unfold rangeD at hi ⊢
    rw [List.length_map, List.length_range] at hi
    subst e y
    exact ⟨.int (lo + (i : Int)), F', by rw [List.getElem?_map, List.getElem?_range hi]; rfl, Ste.refl s2, .int _⟩
  st := fun F' H' i _ _ hi => by
    unfold rangeD at hi
    rw [List.length_map, List.length_range] at hi
    exact hi
section
variable {X : Cx} {C : Ct} {W : WX} {a b c e tg : Expr} {pos : Pos} {f g h : Mo D}
def lstOf : D → Option (List D)
  | .lst ds => some ds
  | .rdl ds => some ds
  | _ => none
def tupOf : D → Option (List D)
  | .tup ds => some ds
  | _ => none
theorem ei_list (he : EvD X C W e f) : EiD X C W tg e (bnd f fun d => lft (lstOf d)) := by
  obtain ⟨te, p1, s1⟩ := he
  refine ⟨_, pi_list p1, fun F H σ ε R R0 q => ?_⟩
  refine s1 F H σ ε _ R0 (q.bind.imp (fun d e q1 v F1 H1 R1 st1 r1 => ?_) fun x e z => z)
  cases d with
  | lst ds =>
    obtain ⟨a, xs, rfl, h, r⟩ := rep_seqs r1
    exact ⟨a, rfl, ⟨xs, Same.seq R1.fh h⟩, q1 _ F1 H1 R1 st1 (it_list h r)⟩
  | rdl ds =>
    obtain ⟨a, xs, rfl, h, r⟩ := rep_rdl r1
    exact ⟨a, rfl, ⟨xs, Same.seq R1.fh h⟩, q1 _ F1 H1 R1 st1 (it_list h r)⟩
  | _ => exact q1.elim
theorem ei_tup (he : EvD X C W e f) : EiD X C W tg e (bnd f fun d => lft (tupOf d)) := by
  obtain ⟨te, p1, s1⟩ := he
  refine ⟨_, pi_tup p1, fun F H σ ε R R0 q => ?_⟩
  refine s1 F H σ ε _ R0 (q.bind.imp (fun d e q1 v F1 H1 R1 st1 r1 => ?_) fun x e z => z)
  cases d with
  | tup ds =>
    obtain ⟨a, xs, rfl, h, r⟩ := rep_tup r1
    exact ⟨a, rfl, ⟨xs, seqT R1.fh h⟩, q1 _ F1 H1 R1 st1 (it_tup h r)⟩
  | _ => exact q1.elim
def inR (j : Int) : Bool := decide (-(2 ^ 62) ≤ j ∧ j < 2 ^ 62)
theorem inR_of {j : Int} (h : inR j = true) : -(2 ^ 62) ≤ j ∧ j < 2 ^ 62 := of_decide_eq_true h
theorem inR_mk {j : Int} (h1 : -(2 ^ 62) ≤ j) (h2 : j < 2 ^ 62) : inR j = true := decide_eq_true ⟨h1, h2⟩
def rng1 : List D → Option (List D)
  | [.int j] => if inR j = true then some (rangeD 0 j.toNat) else none
  | _ => none
def rng2 : List D → Option (List D)
  | [.int i, .int j] => if inR i = true ∧ inR j = true then some (rangeD i (j - i).toNat) else none
  | _ => none
theorem ei_range1 {fs : Mo (List D)} (ha : EaD X C W [a] fs) (hp : ∀ ta, PA X [a] ta → PI X tg e (iRng1 ta)) : EiD X C W tg e (bnd fs fun ds => lft (rng1 ds)) := by
  obtain ⟨ta, p1, s1⟩ := ha
  refine ⟨_, hp _ p1, fun F H σ ε R R0 q => ?_⟩
  refine s1 F H σ ε _ R0 (q.bind.imp (fun ds e q1 vs F1 H1 R1 st1 r1 => ?_) fun x e z => z)
  unfold lft at q1
  cases hr : rng1 ds with
  | none => rw [hr] at q1; exact q1.elim
  | some is =>
    rw [hr] at q1
    unfold rng1 at hr
    split at hr
    · rename_i j
      split at hr
      · rename_i hb
        cases hr
        have := RepL.ints (ns := [j]) r1
        subst this
        exact ⟨j, rfl, (inR_of hb).1, (inR_of hb).2, q1 _ F1 H1 R1 st1 it_range⟩
      · cases hr
    · cases hr
theorem ei_range2 {fs : Mo (List D)} (ha : EaD X C W [a, b] fs) (hp : ∀ ta, PA X [a, b] ta → PI X tg e (iRng2 ta)) : EiD X C W tg e (bnd fs fun ds => lft (rng2 ds)) := by
  obtain ⟨ta, p1, s1⟩ := ha
  refine ⟨_, hp _ p1, fun F H σ ε R R0 q => ?_⟩
  refine s1 F H σ ε _ R0 (q.bind.imp (fun ds e q1 vs F1 H1 R1 st1 r1 => ?_) fun x e z => z)
  unfold lft at q1
  cases hr : rng2 ds with
  | none => rw [hr] at q1; exact q1.elim
  | some is =>
    rw [hr] at q1
    unfold rng2 at hr
    split at hr
    · rename_i i j
      split at hr
      · rename_i hb
        cases hr
        have := RepL.ints (ns := [i, j]) r1
        subst this
        exact ⟨i, j, rfl, ⟨(inR_of hb.1).1, (inR_of hb.1).2, (inR_of hb.2).1, (inR_of hb.2).2⟩, q1 _ F1 H1 R1 st1 it_range⟩
      · cases hr
    · cases hr

/-! ### comprehensions: one clause -/
def PtD (X : Cx) (C : Ct) (W : WX) (ifs : List Expr) (f : Mo Bool) : Prop := ∃ tt, PTs X ifs tt ∧ SdT X.K C W tt f
end
/-- the block's own names are forgotten -/
def wipeE (ε : List Ent) : List Nat → List Ent
  | [] => ε
  | v :: vs => (wipeE ε vs).set v .un
/-- the turns: what is kept goes to the end of acc -/
def lcGo (vs : List Nat) (t : Tg) (tt : Mo Bool) (te : Mo D) : List D → List D → Mo (List D)
  | [], acc => pur acc
  | d :: r, acc => fun ε => match t.parts d with
    | none => none
    | some ds => match tt (setL ε t.is ds) with
      | some (.ok true ε1) => (match te ε1 with
        | some (.ok y ε2) => if acc.length < 1000000 then lcGo vs t tt te r (acc ++ [y]) (wipeE ε2 vs) else none
        | _ => none)
      | some (.ok false ε1) => lcGo vs t tt te r acc (wipeE ε1 vs)
      | _ => none
/-- behind the block: its names hold what they held -/
def backE (ε ε' : List Ent) : List Nat → List Ent
  | [] => ε'
  | v :: vs => backE ε (ε'.set v (match ε[v]? with
    | some (.dat d) => .dat d
    | _ => .un)) vs
def mLc (vs : List Nat) (fi : Mo (List D)) (t : Tg) (tt : Mo Bool) (te : Mo D) : Mo (List D) := bnd fi fun ds => fun ε => match lcGo vs t tt te ds [] (wipeE ε vs) with
  | some (.ok acc ε') => some (.ok acc (backE ε ε' vs))
  | _ => none

section
variable {K : PySem.W.Frag} {C : Ct} {F H F' H' : Hp} {σ : St} {ε ε' : List Ent}
theorem Apart.set {b : Addr} (p : Apart σ ε b) (i : Nat) (x : Option V) {e : Ent} (he : e.mut = false) : Apart (σ.set i x) (ε.set i e) b := fun j e' hj hj' => by
  by_cases hij : i = j
  · subst hij
    have hl : i < ε.length := by
      have := (List.getElem?_eq_some_iff.mp hj').1
      rwa [List.length_set] at this
    rw [List.getElem?_set_self hl] at hj'
    cases hj'
    exact he
  · rw [List.getElem?_set_ne hij] at hj hj'
    exact p j e' hj hj'
theorem Apart.setL {b : Addr} : ∀ {is : List Nat} {vs : List V} {ds : List D} {σ : St} {ε : List Ent}, vs.length = ds.length → Apart σ ε b → Apart (setS σ is vs) (setL ε is ds) b
  | [], _, _, σ, ε, _, p => by unfold DL.setL setS; exact p
  | i :: is, [], [], σ, ε, _, p => by unfold DL.setL setS; exact p
  | i :: is, v :: vs, d :: ds, σ, ε, hl, p => by
    show Apart (setS (σ.set i (some v)) is vs) (DL.setL (ε.set i (.dat d)) is ds) b
    exact Apart.setL (by simpa using hl) (p.set i _ rfl)
  | i :: is, _ :: _, [], σ, ε, hl, p => by simp at hl
  | i :: is, [], _ :: _, σ, ε, hl, p => by simp at hl
theorem Apart.wipe {b : Addr} (p : Apart σ ε b) : ∀ vs : List Nat, Apart (L2.wipe σ vs) (wipeE ε vs) b
  | [] => p
  | v :: vs => (Apart.wipe p vs).set v none rfl
/-- a slot is emptied -/
theorem Rep.unset (R : Rep K C F H σ ε) (i : Nat) : Rep K C F H (σ.set i none) (ε.set i .un) where
  fh := R.fh
  ff := R.ff
  old := R.old
  keep := R.keep
  tr := R.tr
  len := by rw [List.length_set, List.length_set]; exact R.len
  ent := fun j e he => by
    by_cases hj : i = j
    · subst hj
      have hl : i < ε.length := by
        have := (List.getElem?_eq_some_iff.mp he).1
        rwa [List.length_set] at this
      rw [List.getElem?_set_self hl] at he
      cases he
      trivial
    · rw [List.getElem?_set_ne hj] at he
      rw [List.getElem?_set_ne hj]
      exact R.ent j e he
  dis := fun a b l e e' h1 h2 h3 h4 h5 h6 => by
    by_cases ha : i = a
    · subst ha
      have hl : i < ε.length := by
        have := (List.getElem?_eq_some_iff.mp h3).1
        rwa [List.length_set] at this
      rw [List.getElem?_set_self hl] at h3
      cases h3
      cases h5
    · by_cases hb : i = b
      · subst hb
        have hl : i < ε.length := by
          have := (List.getElem?_eq_some_iff.mp h4).1
          rwa [List.length_set] at this
        rw [List.getElem?_set_self hl] at h4
        cases h4
        cases h6
      · rw [List.getElem?_set_ne ha] at h1 h3
        rw [List.getElem?_set_ne hb] at h2 h4
        exact R.dis a b l e e' h1 h2 h3 h4 h5 h6
theorem Rep.wipe (R : Rep K C F H σ ε) : ∀ vs : List Nat, Rep K C F H (L2.wipe σ vs) (wipeE ε vs)
  | [] => R
  | v :: vs => (Rep.wipe R vs).unset v
/-- the slot's value comes back -/
theorem Rep.reset {i : Nat} (R : Rep K C F H (σ.set i none) ε) {e : Ent} (he : e = .un ∨ ∃ d x, e = .dat d ∧ σ[i]? = some (some x) ∧ RepD K F x d) : Rep K C F H σ (ε.set i e) where
  fh := R.fh
  ff := R.ff
  old := R.old
  keep := R.keep
  tr := R.tr
  len := by
    have := R.len
    rw [List.length_set] at this
    rw [List.length_set]; exact this
  ent := fun j e2 h2 => by
    by_cases hj : i = j
    · subst hj
      have hl : i < ε.length := by
        have := (List.getElem?_eq_some_iff.mp h2).1
        rwa [List.length_set] at this
      rw [List.getElem?_set_self hl] at h2
      cases h2
      rcases he with rfl | ⟨d, x, rfl, h3, h4⟩
      · trivial
      · exact ⟨x, h3, h4⟩
    · rw [List.getElem?_set_ne hj] at h2
      have q := R.ent j e2 h2
      rw [List.getElem?_set_ne hj] at q
      exact q
  dis := fun a b l e1 e2 h1 h2 h3 h4 h5 h6 => by
    have nm : e.mut = false := by
      rcases he with rfl | ⟨d, x, rfl, _⟩ <;> rfl
    by_cases ha : i = a
    · subst ha
      have hl : i < ε.length := by
        have := (List.getElem?_eq_some_iff.mp h3).1
        rwa [List.length_set] at this
      rw [List.getElem?_set_self hl] at h3
      cases h3
      rw [nm] at h5; cases h5
    · by_cases hb : i = b
      · subst hb
        have hl : i < ε.length := by
          have := (List.getElem?_eq_some_iff.mp h4).1
          rwa [List.length_set] at this
        rw [List.getElem?_set_self hl] at h4
        cases h4
        rw [nm] at h6; cases h6
      · rw [List.getElem?_set_ne ha] at h3
        rw [List.getElem?_set_ne hb] at h4
        exact R.dis a b l e1 e2 (by rw [List.getElem?_set_ne ha]; exact h1) (by rw [List.getElem?_set_ne hb]; exact h2) h3 h4 h5 h6
theorem Rep.back (R0 : Rep K C F H σ ε) (s : Same F F') : ∀ (vs : List Nat) {ε' : List Ent}, vs.Nodup → Rep K C F' H' (L2.wipe σ vs) ε' → Rep K C F' H' σ (backE ε ε' vs)
  | [], _, _, R => R
  | v :: vs, ε', nd, R => by
    have nd' := List.nodup_cons.mp nd
    refine Rep.back R0 s vs nd'.2 (Rep.reset (i := v) R ?_)
    cases h : ε[v]? with
    | none => exact .inl rfl
    | some e =>
      cases e with
      | dat d =>
        obtain ⟨x, h1, h2⟩ := R0.ent v _ h
        exact .inr ⟨d, x, rfl, by rw [wipe_out nd'.1]; exact h1, h2.mono s⟩
      | un => exact .inl rfl
      | xc => exact .inl rfl
      | own ds => exact .inl rfl
      | od ob => exact .inl rfl
      | ib ob => exact .inl rfl
      | io ds => exact .inl rfl
theorem apart_back {b : Addr} : ∀ (vs : List Nat) {ε' : List Ent}, Apart (L2.wipe σ vs) ε' b → vs.Nodup → Apart σ (backE ε ε' vs) b
  | [], _, p, _ => p
  | v :: vs, ε', p, nd => by
    have nd' := List.nodup_cons.mp nd
    refine apart_back vs (fun j e hj hj' => ?_) nd'.2
    by_cases hij : v = j
    · subst hij
      have hl : v < ε'.length := by
        have := (List.getElem?_eq_some_iff.mp hj').1
        rwa [List.length_set] at this
      rw [List.getElem?_set_self hl] at hj'
      cases hj'
      split <;> rfl
    · rw [List.getElem?_set_ne hij] at hj'
      refine p j e ?_ hj'
      show ((L2.wipe σ vs).set v none)[j]? = _
      rw [List.getElem?_set_ne hij]
      exact hj
/-- a loose object changes -/
theorem Rep.poke (R : Rep K C F H σ ε) {l : Addr} {o : HO} (h2 : F l = none) (h4 : C.H0 l = none) (h5 : Apart σ ε l) : Rep K C F (upd H l o) σ ε where
  fh := fun b x e => by
    rw [upd_ne (fun z => by rw [z, h2] at e; cases e)]
    exact R.fh b x e
  ff := R.ff
  old := R.old
  keep := fun b o' e n => by
    rw [upd_ne (fun z => by rw [z, h4] at e; cases e)]
    exact R.keep b o' e n
  tr := fun b e => by
    rw [upd_ne (fun z => e (by rw [z]; exact h4))]
    exact R.tr b e
  len := R.len
  ent := fun i e he => by
    have q := R.ent i e he
    cases e with
    | un => trivial
    | xc => exact q
    | dat d => exact q
    | own ds =>
      obtain ⟨m, vs, a, b, c, d, g⟩ := q
      have ne : m ≠ l := fun z => by
        have := h5 i _ (z ▸ a) he
        cases this
      exact ⟨m, vs, a, by rw [upd_ne ne]; exact b, c, d, g⟩
    | io ds =>
      obtain ⟨m, vs, a, b, c, d, g⟩ := q
      have ne : m ≠ l := fun z => by
        have := h5 i _ (z ▸ a) he
        cases this
      exact ⟨m, vs, a, by rw [upd_ne ne]; exact b, c, d, g⟩
    | od ob =>
      obtain ⟨m, vs, a, b, c, d, g⟩ := q
      have ne : m ≠ l := fun z => by
        have := h5 i _ (z ▸ a) he
        cases this
      exact ⟨m, vs, a, by rw [upd_ne ne]; exact b, c, d, g⟩
    | ib ob =>
      obtain ⟨m, vs, a, b, c, d, g⟩ := q
      have ne : m ≠ l := fun z => by
        have := h5 i _ (z ▸ a) he
        cases this
      exact ⟨m, vs, a, by rw [upd_ne ne]; exact b, c, d, g⟩
  dis := R.dis
theorem Rep.newApart (R : Rep K C F H σ ε) {l : Addr} (h : H l = none) : F l = none ∧ C.H0 l = none ∧ Apart σ ε l := by
  refine ⟨R.fh.free h, ?_, fun j e hj he => ?_⟩
  · cases q : C.H0 l with
    | none => rfl
    | some o => exact absurd h (R.tr l (by rw [q]; exact fun z => by cases z))
  · cases hm : e.mut with
    | false => rfl
    | true =>
      have q := R.ent j e he
      cases e with
      | un => cases hm
      | xc => cases hm
      | dat d => cases hm
      | own ds =>
        obtain ⟨m, vs, a, b, _⟩ := q
        rw [hj] at a; cases a
        rw [h] at b; cases b
      | io ds =>
        obtain ⟨m, vs, a, b, _⟩ := q
        rw [hj] at a; cases a
        rw [h] at b; cases b
      | od ob =>
        obtain ⟨m, vs, a, b, _⟩ := q
        rw [hj] at a; cases a
        rw [h] at b; cases b
      | ib ob =>
        obtain ⟨m, vs, a, b, _⟩ := q
        rw [hj] at a; cases a
        rw [h] at b; cases b
end

/-! ### expressions that give a new list of one's own -/
def OkO (K : PySem.W.Frag) (C : Ct) (F H : Hp) (σ : St) (ε : List Ent) (Q : VK) : List D → List Ent → Prop := fun ds ε' => ∀ l vs F' H', Rep K C F' H' σ ε' → Stp σ ε ε' F H F' H' → H' l = some (.lst vs) → F' l = none → RepL K F' vs ds →
  C.H0 l = none → Apart σ ε' l → H l = none → Q (.ref l) H'
def SdO (K : PySem.W.Frag) (C : Ct) (W : WX) (te : TE) (f : Mo (List D)) : Prop := ∀ F H σ ε Q, Rep K C F H σ ε → Good (f ε) (OkO K C F H σ ε Q) (ExP K C W F H σ ε) → te σ H Q
def EvO (X : Cx) (C : Ct) (W : WX) (e : Expr) (f : Mo (List D)) : Prop := ∃ te, PE X e te ∧ SdO X.K C W te f
def mFz (f : Mo (List D)) : Mo D := bnd f fun ds => pur (.lst ds)
theorem SdO.frz {K : PySem.W.Frag} {C : Ct} {W : WX} {te : TE} {f : Mo (List D)} (h : SdO K C W te f) : SdE K C W te (mFz f) := fun F H σ ε Q R q => by
  refine h F H σ ε Q R (q.bind.imp (fun ds e q1 l vs F1 H1 R1 st1 h1 h2 h3 h4 h5 h6 => ?_) fun x e z => z)
  have R2 := R1.freeze h1 h2 h4 h5
  have s2 : Same F1 (upd F1 l (.lst vs)) := same_upd h2
  exact q1 (.ref l) _ _ R2 ⟨st1.ff.trans s2, st1.hh, fun b hb p => by
    rw [upd_ne (fun z => hb (by rw [z]; exact h6))]
    exact st1.old b hb p, st1.ap, st1.tr⟩ (.lst upd_same (h3.mono s2))
theorem EvO.frz {X : Cx} {C : Ct} {W : WX} {e : Expr} {f : Mo (List D)} (h : EvO X C W e f) : EvD X C W e (mFz f) := by
  obtain ⟨te, p, s⟩ := h
  exact ⟨te, p, s.frz⟩

theorem wipe_len (σ : St) : ∀ vs : List Nat, (L2.wipe σ vs).length = σ.length
  | [] => rfl
  | v :: vs => by
    show ((L2.wipe σ vs).set v none).length = _
    rw [List.length_set]; exact wipe_len σ vs
theorem wipe_at (σ : St) (j : Nat) : ∀ vs : List Nat, (L2.wipe σ vs)[j]? = if j ∈ vs then (if j < σ.length then some none else none) else σ[j]?
  | [] => by simp [L2.wipe]
  | v :: vs => by
    show ((L2.wipe σ vs).set v none)[j]? = _
    by_cases hv : v = j
    · subst hv
      rw [if_pos List.mem_cons_self]
      by_cases hl : v < σ.length
      · rw [if_pos hl, List.getElem?_set_self (by rw [wipe_len]; exact hl)]
      · rw [if_neg hl, List.getElem?_eq_none (by rw [List.length_set, wipe_len]; omega)]
    · rw [List.getElem?_set_ne hv, wipe_at σ j vs]
      by_cases hm : j ∈ vs
      · rw [if_pos hm, if_pos (List.mem_cons_of_mem _ hm)]
      · rw [if_neg hm, if_neg (fun z => by
          rcases List.mem_cons.mp z with e | e
          · exact hv e.symm
          · exact hm e)]
theorem setS_len : ∀ (is : List Nat) (xs : List V) (τ : St), (setS τ is xs).length = τ.length
  | [], _, τ => by unfold setS; rfl
  | i :: is, [], τ => by unfold setS; rfl
  | i :: is, x :: xs, τ => by
    show (setS (τ.set i (some x)) is xs).length = _
    rw [setS_len is xs, List.length_set]
theorem setS_at {j : Nat} : ∀ (is : List Nat) (xs : List V) (τ : St), j ∉ is → (setS τ is xs)[j]? = τ[j]?
  | [], _, τ, _ => by unfold setS; rfl
  | i :: is, [], τ, _ => by unfold setS; rfl
  | i :: is, x :: xs, τ, h => by
    show (setS (τ.set i (some x)) is xs)[j]? = _
    rw [setS_at is xs _ (fun z => h (List.mem_cons_of_mem _ z)), List.getElem?_set_ne (fun z => h (by rw [z]; exact List.mem_cons_self))]
theorem wipe_setS {vs is : List Nat} (hin : ∀ i ∈ is, i ∈ vs) (xs : List V) (σ : St) : L2.wipe (setS (L2.wipe σ vs) is xs) vs = L2.wipe σ vs := by
  apply List.ext_getElem?
  intro j
  rw [wipe_at, wipe_at]
  by_cases hm : j ∈ vs
  · rw [if_pos hm, if_pos hm, setS_len, wipe_len]
  · rw [if_neg hm, if_neg hm, setS_at _ _ _ (fun z => hm (hin j z)), wipe_at, if_neg hm]
theorem wipe_wipe (vs : List Nat) (σ : St) : L2.wipe (L2.wipe σ vs) vs = L2.wipe σ vs := by
  have := wipe_setS (vs := vs) (is := []) (fun i h => by cases h) [] σ
  unfold setS at this
  exact this
section
variable {K : PySem.W.Frag} {C : Ct} {W : WX}
/-- the comprehension's loop -/
theorem sd_lc {wi : TI} {g : TG} {tt : TT} {te : TE} {vs : List Nat} {fi : Mo (List D)} {t : Tg} {ft : Mo Bool} {fe : Mo D} {W0 : WX} (nd : vs.Nodup) (hin : ∀ i ∈ t.is, i ∈ vs) (si : SdI K C W wi fi) (sg : SdG K g t)
    (stt : SdT K C W0 tt ft) (ste : SdE K C W0 te fe) : SdO K C W (tLc wi g tt te vs) (mLc vs fi t ft fe) := fun F H σ ε Q R q => by
  refine si F H σ ε _ R (q.bind.imp (fun ds e q1 J F1 H1 R1 st1 it => ?_) fun x e z => z)
  intro D hD
  obtain ⟨fD, h0D, apD⟩ := R1.newApart hD
  cases hgo : lcGo vs t ft fe ds [] (wipeE e vs) with
  | none => rw [hgo] at q1; exact q1.elim
  | some res =>
  cases res with
  | ex x ε' => rw [hgo] at q1; exact q1.elim
  | ok out εo =>
  rw [hgo] at q1
  -- the invariant
  refine ⟨fun i m H' => m = ds.length - i ∧ i ≤ ds.length ∧ ∃ F' ε' acc accV, Rep K C F' H' (L2.wipe σ vs) ε' ∧ Same F1 F' ∧ (∀ b o, H1 b = some o → Apart (L2.wipe σ vs) (wipeE e vs) b → H' b = some o) ∧ (∀ b, H1 b ≠ none → Apart (L2.wipe σ vs) (wipeE e vs) b → F' b = F1 b) ∧
      (∀ b, Apart (L2.wipe σ vs) (wipeE e vs) b → Apart (L2.wipe σ vs) ε' b) ∧ (∀ b, H1 b ≠ none → H' b ≠ none) ∧ H' D = some (.lst accV) ∧ F' D = none ∧ RepL K F' accV acc ∧ lcGo vs t ft fe (ds.drop i) acc ε' = some (.ok out εo), ⟨ds.length, by simp, Nat.zero_le _, F1, wipeE e vs, [], [], ?_⟩, ?_⟩
  · refine ⟨((R1.wipe vs).poke fD h0D (apD.wipe vs)), Same.refl F1, fun b o h _ => ?_, fun _ _ _ => rfl, fun _ p => p, fun b h => by rw [upd_ne (fun z => h (by rw [z]; exact hD))]; exact h, upd_same, fD, .nil, by rw [List.drop_zero]; exact hgo⟩
    rw [upd_ne (fun z => by rw [z, hD] at h; cases h)]
    exact h
  · rintro i m H2 ⟨rfl, hi, F2, ε2, acc, accV, R2, s12, k1, k2, k3, k4, hD2, fD2, ra, go⟩
    have apD2 : Apart (L2.wipe σ vs) ε2 D := k3 D (apD.wipe vs)
    by_cases hlt : i < ds.length
    · refine .inr ⟨it.go F2 H2 i s12 R2.fh hlt, _, fun H' w => ⟨ds.length - (i + 1), by omega, rfl, by omega, w⟩, fun x H3 y => ?_⟩
      obtain ⟨d, F3, hd, st3, rd⟩ := it.yl F2 H2 i x H3 s12 R2.fh hlt y
      have R3 := R2.step st3
      have hds : ds.drop i = d :: ds.drop (i + 1) := by
        obtain ⟨hl, e2⟩ := List.getElem?_eq_some_iff.mp hd
        rw [List.drop_eq_getElem_cons hl, e2]
      rw [hds] at go
      unfold lcGo at go
      cases hp : t.parts d with
      | none => rw [hp] at go; cases go
      | some ps =>
        rw [hp] at go
        dsimp only at go
        refine sg F3 H3 _ x d ps _ R3.fh rd hp fun xs rx => ⟨wipe_setS hin xs σ, ?_⟩
        have R4 := R3.setL (is := t.is) rx
        have ap4 : ∀ b, Apart (L2.wipe σ vs) ε2 b → Apart (setS (L2.wipe σ vs) t.is xs) (setL ε2 t.is ps) b := fun b p => p.setL rx.length
        have hD3 : H3 D = some (.lst accV) := st3.hh D _ hD2
        have fD3 : F3 D = none := (st3.old D (by rw [hD2]; exact fun z => by cases z)).trans fD2
        have l1 : ∀ b o, H1 b = some o → Apart (L2.wipe σ vs) (wipeE e vs) b → H3 b = some o := fun b o h p => st3.hh b o (k1 b o h p)
        have l2 : ∀ b, H1 b ≠ none → Apart (L2.wipe σ vs) (wipeE e vs) b → F3 b = F1 b := fun b h p => by
          cases q : H1 b with
          | none => exact absurd q h
          | some o => exact (st3.old b (by rw [k1 b o q p]; exact fun z => by cases z)).trans (k2 b h p)
        -- what a turn's evaluations leave
        have keep : ∀ {εa : List Ent} {Fa Ha : Hp}, Stp (setS (L2.wipe σ vs) t.is xs) (setL ε2 t.is ps) εa F3 H3 Fa Ha → Rep K C Fa Ha (setS (L2.wipe σ vs) t.is xs) εa →
            Rep K C Fa Ha (L2.wipe σ vs) (wipeE εa vs) ∧ Same F1 Fa ∧ (∀ b o, H1 b = some o → Apart (L2.wipe σ vs) (wipeE e vs) b → Ha b = some o) ∧ (∀ b, H1 b ≠ none → Apart (L2.wipe σ vs) (wipeE e vs) b → Fa b = F1 b) ∧
            (∀ b, Apart (L2.wipe σ vs) (wipeE e vs) b → Apart (L2.wipe σ vs) (wipeE εa vs) b) ∧ (∀ b, H1 b ≠ none → Ha b ≠ none) ∧ Ha D = some (.lst accV) ∧ Fa D = none := fun {εa Fa Ha} st Ra => by
          have Rw := Ra.wipe vs
          rw [wipe_setS hin] at Rw
          refine ⟨Rw, (s12.trans st3.ff).trans st.ff, fun b o h p => st.hh b o (l1 b o h p) (ap4 b (k3 b p)), fun b h p => ?_, fun b p => ?_, fun b h => st.tr b (Same.some st3.hh (k4 b h)), st.hh D _ hD3 (ap4 D apD2), (st.old D (by rw [hD3]; exact fun z => by cases z) (ap4 D apD2)).trans fD3⟩
          · cases q : H1 b with
            | none => exact absurd q h
            | some o => exact (st.old b (by rw [l1 b o q p]; exact fun z => by cases z) (ap4 b (k3 b p))).trans (l2 b h p)
          · have := (st.ap b (ap4 b (k3 b p))).wipe vs
            rw [wipe_setS hin] at this
            exact this
        refine stt F3 H3 _ (setL ε2 t.is ps) _ R4 ?_
        cases ht : ft (setL ε2 t.is ps) with
        | none => rw [ht] at go; cases go
        | some rt =>
        rw [ht] at go
        cases rt with
        | ex x2 e2 => cases go
        | ok bt ε3 =>
        cases bt with
        | false =>
          intro F4 H4 R5 st5
          obtain ⟨m1, m2, m3, m4, m5, m8, m6, m7⟩ := keep st5 R5
          refine iteF ?_
          exact ⟨F4, wipeE ε3 vs, acc, accV, m1, m2, m3, m4, m5, m8, m6, m7, ra.mono (st3.ff.trans st5.ff), go⟩
        | true =>
          intro F4 H4 R5 st5
          refine iteT ?_
          dsimp only at go
          refine ste F4 H4 _ ε3 _ R5 ?_
          cases he : fe ε3 with
          | none => rw [he] at go; cases go
          | some re =>
          rw [he] at go
          cases re with
          | ex x2 e2 => cases go
          | ok y ε4 =>
          dsimp only at go
          intro v F5 H5 R6 st6 rv
          by_cases hz : acc.length < 1000000
          · rw [if_pos hz] at go
            obtain ⟨m1, m2, m3, m4, m5, m8, m6, m7⟩ := keep (st5.trans st6) R6
            have apD5 := m5 D (apD.wipe vs)
            have ra5 := ra.mono (st3.ff.trans (st5.ff.trans st6.ff))
            refine ⟨accV, m6, by rw [ra.length]; exact Nat.lt_of_lt_of_le hz (by decide), F5, wipeE ε4 vs, acc ++ [y], accV ++ [v], m1.poke m7 h0D apD5, m2, fun b o h p => ?_, m4, m5, fun b h => by
                by_cases hb : b = D
                · rw [hb, upd_same]; exact fun z => by cases z
                · rw [upd_ne hb]; exact m8 b h, upd_same, m7, ra5.append (.cons rv .nil), go⟩
            rw [upd_ne (fun z => by rw [z, hD] at h; cases h)]
            exact m3 b o h p
          · rw [if_neg hz] at go; cases go
    · have e0 : i = ds.length := by omega
      subst e0
      refine .inl ⟨it.st F2 H2 _ s12 R2.fh (Nat.le_refl _), ?_⟩
      rw [List.drop_length] at go
      unfold lcGo pur at go
      cases go
      have Rb := R1.back s12 vs nd R2
      refine q1 D accV F2 H2 Rb (st1.trans ⟨s12, fun b o h p => k1 b o h (p.wipe vs), fun b h p => k2 b h (p.wipe vs), fun b p => apart_back vs (k3 b (p.wipe vs)) nd, k4⟩) hD2 fD2 ra h0D (apart_back vs apD2 nd) ?_
      cases qD : H D with
      | none => rfl
      | some o => exact absurd hD (st1.tr D (by rw [qD]; exact fun z => by cases z))
end
end DL

set_option Elab.async false
set_option linter.all false
set_option maxRecDepth 100000
namespace DL
open PySem PySem.Spec L2

/-! ### uniform readings -/
def canE (K : PySem.W.Frag) (C : Ct) (W : WX) (f : Mo D) : TE := fun σ H Q => ∃ F ε, Rep K C F H σ ε ∧ Good (f ε) (OkE K C F H σ ε Q) (ExP K C W F H σ ε)
theorem EvD.can {X : Cx} {C : Ct} {W : WX} {e : Expr} {f : Mo D} (h : EvD X C W e f) : PE X e (canE X.K C W f) := by
  obtain ⟨te, p, s⟩ := h
  exact ⟨fun pins st σ H Q I ⟨F, ε, R, q⟩ => p.run pins st σ H Q I (s F H σ ε Q R q)⟩
theorem sd_can {K : PySem.W.Frag} {C : Ct} {W : WX} {f : Mo D} : SdE K C W (canE K C W f) f := fun F H σ ε Q R q => ⟨F, ε, R, q⟩
def canT (K : PySem.W.Frag) (C : Ct) (W : WX) (f : Mo Bool) : TT := fun σ H Q => ∃ F ε, Rep K C F H σ ε ∧ Good (f ε) (OkB K C F H σ ε Q) (ExP K C W F H σ ε)
theorem PtD.can {X : Cx} {C : Ct} {W : WX} {e : List Expr} {f : Mo Bool} (h : PtD X C W e f) : PTs X e (canT X.K C W f) := by
  obtain ⟨te, p, s⟩ := h
  exact ⟨fun pins st σ H Q I ⟨F, ε, R, q⟩ => p.run pins st σ H Q I (s F H σ ε Q R q)⟩
theorem sd_canT {K : PySem.W.Frag} {C : Ct} {W : WX} {f : Mo Bool} : SdT K C W (canT K C W f) f := fun F H σ ε Q R q => ⟨F, ε, R, q⟩
section
variable {X : Cx} {C : Ct} {W : WX} {a b c e tg : Expr} {pos : Pos} {f g h : Mo D}
abbrev W0 : WX := fun _ _ _ _ => False
theorem pt_nilD : PtD X C W [] (pur true) := ⟨_, pts_nil, fun F H σ ε Q R q => q F H R Stp.refl⟩
theorem pt_oneD {f : Mo Bool} (h : TeD X C W a f) : PtD X C W [a] f := by
  obtain ⟨te, p, s⟩ := h
  exact ⟨te, pts_one p, s⟩
theorem ev_lc {elt iter : Expr} {ifs : List Expr} {scope : Scope} {own : List (Str × Nat)} {g : TG} {t : Tg} {fi : Mo (List D)} {ft : Mo Bool} {fe : Mo D} (hc : X.calm = true) (hN : X.N.Nodup) (hi : EiD X C W tg iter fi) (ok : BlkOk X.N X.env.scope scope own)
    (hg : ∀ (s : Shared) (H : Hp) (Ca : Addr) (cl : List (Str × Addr)) (fp : List Addr), PG (X.blk s H scope (compEnvC scope cl Ca X.env) fp) tg g) (sg : SdG X.K g t)
    (ht : ∀ (s : Shared) (H : Hp) (Ca : Addr) (cl : List (Str × Addr)) (fp : List Addr), PtD (X.blk s H scope (compEnvC scope cl Ca X.env) fp) C W0 ifs ft)
    (he : ∀ (s : Shared) (H : Hp) (Ca : Addr) (cl : List (Str × Addr)) (fp : List Addr), EvD (X.blk s H scope (compEnvC scope cl Ca X.env) fp) C W0 elt fe)
    (nd : (own.map (·.2)).Nodup) (hin : ∀ i ∈ t.is, i ∈ own.map (·.2)) (hs : ∀ x, foldedSetIterable iter X.env x = pure x := by intro _; rfl) :
    EvO X C W (.ListComp elt [⟨tg, iter, ifs, 0⟩] scope pos) (mLc (own.map (·.2)) fi t ft fe) := by
  obtain ⟨wi, p, si⟩ := hi
  exact ⟨_, pe_lc hc hN p ok hg (fun s H Ca cl fp => (ht s H Ca cl fp).can) (fun s H Ca cl fp => (he s H Ca cl fp).can) hs, sd_lc nd hin si sg sd_canT sd_can⟩
end

/-! ### new lists of one's own -/
section
variable {X : Cx} {C : Ct} {W : WX} {a b c e tg : Expr} {pos : Pos} {f g h : Mo D}
theorem Rep.loose {K : PySem.W.Frag} {C : Ct} {F H : Hp} {σ : St} {ε : List Ent} (R : Rep K C F H σ ε) {p : Addr} (o : HO) (h : H p = none) : Rep K C F (upd H p o) σ ε := R.step (Ste.loose R.fh h)
theorem ok_new {K : PySem.W.Frag} {F H F1 H1 : Hp} {σ : St} {ε ε1 : List Ent} {Q : VK} {ds : List D} {xs : List V} (R : Rep K C F H σ ε) (R1 : Rep K C F1 H1 σ ε1) (st : Stp σ ε ε1 F H F1 H1) (r : RepL K F1 xs ds) (q : OkO K C F H σ ε Q ds ε1) {p : Addr} (hp : H1 p = none) : Q (.ref p) (upd H1 p (.lst xs)) := by
  obtain ⟨h1, h2, h3⟩ := R1.newApart hp
  refine q p xs F1 _ (R1.loose _ hp) (st.trans (Ste.loose R1.fh hp).stp) upd_same h1 r h2 h3 ?_
  cases qq : H p with
  | none => rfl
  | some o => exact absurd hp (st.tr p (by rw [qq]; exact fun z => by cases z))
def mLstO (f : Mo (List D)) : Mo (List D) := bnd f fun ds => lft (if ds.length ≤ 1000 then some ds else none)
theorem eo_lst {es : List Expr} {fs : Mo (List D)} (h : EaD X C W es fs) : EvO X C W (.List es pos) (mLstO fs) := by
  obtain ⟨te, p1, s1⟩ := h
  refine ⟨_, pe_lst p1, fun F H σ ε Q R q => ?_⟩
  refine s1 F H σ ε _ R (q.bind.imp (fun ds e q1 vs F1 H1 R1 st1 r1 => ?_) fun x e z => z)
  unfold lft at q1
  by_cases hl : ds.length ≤ 1000
  · rw [if_pos hl] at q1
    exact ⟨by rw [r1.length]; exact le_line hl, fun p hp => ok_new R R1 st1 r1 q1 hp⟩
  · rw [if_neg hl] at q1; exact q1.elim
/-- list(x) -/
def mListO (f : Mo (List D)) : Mo (List D) := bnd f fun ds => lft (match ds with
  | [d] => seqOf d
  | _ => none)
theorem eo_list {es : List Expr} {fs : Mo (List D)} (h : EaD X C W es fs) (hp : ∀ ta, PA X es ta → PE X e (tCB (fun xs H Q => ∃ p ys, xs = [.ref p] ∧ (SqL X.K H p ys ∨ SqT X.K H p ys) ∧ ∀ l, H l = none → Q (.ref l) (upd H l (.lst ys))) ta)) : EvO X C W e (mListO fs) := by
  obtain ⟨te, p1, s1⟩ := h
  refine ⟨_, hp _ p1, fun F H σ ε Q R q => ?_⟩
  refine s1 F H σ ε _ R (q.bind.imp (fun ds e q1 vs F1 H1 R1 st1 r1 => ?_) fun x e z => z)
  unfold lft at q1
  cases r1 with
  | nil => exact q1.elim
  | cons r1 r2 =>
    cases r2 with
    | cons _ _ => exact q1.elim
    | nil =>
      rename_i d
      dsimp only at q1
      cases hd : seqOf d with
      | none => rw [hd] at q1; exact q1.elim
      | some es =>
        rw [hd] at q1
        obtain ⟨p, xs, rfl, h, r⟩ := rep_seq r1 hd
        exact ⟨p, xs, rfl, seq_up R1.fh h, fun l hl => ok_new R R1 st1 r q1 hl⟩
/-- xs[a:b] of a list, as one's own -/
def mSlO (f : Mo D) (fl fh : Mo (Option Int)) : Mo (List D) := bnd f fun d => bnd fl fun lo => bnd fh fun hi => lft ((lstOf d).map fun ds => cutD ds lo hi)
theorem eo_sl {lo hi : Option Expr} {fl fh : Mo (Option Int)} {p2 : Pos} (ha : EvD X C W a f) (hl : EoD X C W lo fl) (hh : EoD X C W hi fh) : EvO X C W (.Subscript a (.Slice lo hi none p2) pos) (mSlO f fl fh) := by
  obtain ⟨ta, p0, s0⟩ := ha
  obtain ⟨tl, p1, s1⟩ := hl
  obtain ⟨th, p2', s2⟩ := hh
  refine ⟨_, pe_slice sl_list p0 p1 p2', fun F H σ ε Q R q => ?_⟩
  refine s0 F H σ ε _ R (q.bind.imp (fun d e q1 v F1 H1 R1 st1 r1 => ?_) fun x e z => z)
  refine s1 F1 H1 σ e _ R1 (q1.bind.imp (fun l e2 q2 F2 H2 R2 st2 => ?_) fun x e z => z.imp st1)
  refine s2 F2 H2 σ e2 _ R2 (q2.bind.imp (fun u e3 q3 F3 H3 R3 st3 => ?_) fun x e z => z.imp (st1.trans st2))
  have r3 := (r1.mono st2.ff).mono st3.ff
  cases d with
  | lst ds =>
    obtain ⟨p, xs, rfl, h, r⟩ := rep_seqs r3
    exact ⟨p, xs, rfl, Same.seq R3.fh h, fun l' hl => ok_new R R3 ((st1.trans st2).trans st3) (rep_cut r l u) q3 hl⟩
  | rdl ds =>
    obtain ⟨p, xs, rfl, h, r⟩ := rep_rdl r3
    exact ⟨p, xs, rfl, Same.seq R3.fh h, fun l' hl => ok_new R R3 ((st1.trans st2).trans st3) (rep_cut r l u) q3 hl⟩
  | _ => exact q3.elim
/-- xs + ys of lists, as one's own -/
def mCatO (f g : Mo D) : Mo (List D) := bnd f fun a => bnd g fun b => lft (match a, b with
  | .lst x, .lst y => if x.length + y.length ≤ 1000000 then some (x ++ y) else none
  | _, _ => none)
theorem eo_cat (ha : EvD X C W a f) (hb : EvD X C W b g) : EvO X C W (.BinOp a .Add b pos) (mCatO f g) := by
  obtain ⟨ta, p0, s0⟩ := ha
  obtain ⟨tb, p1, s1⟩ := hb
  refine ⟨_, pe_op op_cat p0 p1, fun F H σ ε Q R q => ?_⟩
  refine s0 F H σ ε _ R (q.bind.imp (fun d e q1 v F1 H1 R1 st1 r1 => ?_) fun x e z => z)
  refine s1 F1 H1 σ e _ R1 (q1.bind.imp (fun d2 e2 q2 v2 F2 H2 R2 st2 r2 => ?_) fun x e z => z.imp st1)
  have r1' := r1.mono st2.ff
  cases d with
  | lst x =>
    cases d2 with
    | lst y =>
      obtain ⟨p, xs, rfl, h, r⟩ := rep_lst r1'
      obtain ⟨p2, ys, rfl, h2, r'⟩ := rep_lst r2
      unfold lft at q2
      dsimp only at q2
      by_cases hz : x.length + y.length ≤ 1000000
      · rw [if_pos hz] at q2
        exact ⟨p, p2, xs, ys, rfl, rfl, R2.fh _ _ h, R2.fh _ _ h2, by rw [r.length, r'.length]; exact line_big hz, fun l hl => ok_new R R2 (st1.trans st2) (r.append r') q2 hl⟩
      · rw [if_neg hz] at q2; exact q2.elim
    | _ => exact q2.elim
  | _ => exact q2.elim

/-! ### statements -/
inductive ResS where
  | nx (ε : List Ent) | rt (d : D) (ε : List Ent) | ro (ds : List D) (ε : List Ent) | bk (ε : List Ent) | ct (ε : List Ent) | ex (x : Xn) (ε : List Ent)
abbrev MoS := List Ent → Option ResS
def GoodS (K : PySem.W.Frag) (C : Ct) (W : WX) (F : Hp) (D : Ends) (r : Option ResS) : Prop := match r with
  | some (.nx ε') => ∀ F' H' σ', Rep K C F' H' σ' ε' → Same F F' → D.nx σ' H'
  | some (.rt d ε') => ∀ v F' H' σ', Rep K C F' H' σ' ε' → Same F F' → RepD K F' v d → D.rt v H'
  | some (.ro ds ε') => ∀ l vs F' H' σ', Rep K C F' H' σ' ε' → Same F F' → H' l = some (.lst vs) → F' l = none → RepL K F' vs ds → C.H0 l = none → D.rt (.ref l) H'
  | some (.bk ε') => ∀ F' H' σ', Rep K C F' H' σ' ε' → Same F F' → D.bk σ' H'
  | some (.ct ε') => ∀ F' H' σ', Rep K C F' H' σ' ε' → Same F F' → D.ct σ' H'
  | some (.ex x ε') => ∀ c od F' H' σ', Rep K C F' H' σ' ε' → Same F F' → RepX K F' H' x c od → W c od σ' H'
  | none => False
theorem GoodS.mono {K : PySem.W.Frag} {C : Ct} {W : WX} {F F' : Hp} {D : Ends} {r : Option ResS} (h : GoodS K C W F D r) (s : Same F F') : GoodS K C W F' D r := by
  cases r with
  | none => exact h
  | some r =>
    cases r with
    | nx e => exact fun F2 H2 σ2 R s2 => h F2 H2 σ2 R (s.trans s2)
    | rt d e => exact fun v F2 H2 σ2 R s2 r => h v F2 H2 σ2 R (s.trans s2) r
    | ro ds e => exact fun l vs F2 H2 σ2 R s2 => h l vs F2 H2 σ2 R (s.trans s2)
    | bk e => exact fun F2 H2 σ2 R s2 => h F2 H2 σ2 R (s.trans s2)
    | ct e => exact fun F2 H2 σ2 R s2 => h F2 H2 σ2 R (s.trans s2)
    | ex x e => exact fun c od F2 H2 σ2 R s2 r => h c od F2 H2 σ2 R (s.trans s2) r
def SdS (K : PySem.W.Frag) (C : Ct) (W : WX) (ts : TS) (g : MoS) : Prop := ∀ F H σ ε D, Rep K C F H σ ε → GoodS K C W F D (g ε) → ts D σ H
def StD (X : Cx) (C : Ct) (W : WX) (s : Stmt) (g : MoS) : Prop := ∃ ts, PS X s ts ∧ SdS X.K C W ts g
def SsD (X : Cx) (C : Ct) (W : WX) (s : List Stmt) (g : MoS) : Prop := ∃ ts, PSs X s ts ∧ SdS X.K C W ts g
def mNil : MoS := fun ε => some (.nx ε)
def mSeq (g1 g2 : MoS) : MoS := fun ε => match g1 ε with
  | some (.nx ε') => g2 ε'
  | r => r
variable {s s2 : Stmt} {ss : List Stmt} {m m2 : MoS}
theorem ss_nil : SsD X C W [] mNil := ⟨_, pss_nil, fun F H σ ε D R q => q F H σ R (Same.refl F)⟩
theorem ss_one (h : StD X C W s m) : SsD X C W [s] m := by
  obtain ⟨t, p, sd⟩ := h
  exact ⟨t, pss_one p, sd⟩
theorem ss_cons (h : StD X C W s m) (h2 : SsD X C W ss m2) : SsD X C W (s :: ss) (mSeq m m2) := by
  obtain ⟨t, p, sd⟩ := h
  obtain ⟨t2, p2, sd2⟩ := h2
  refine ⟨_, pss_cons p p2, fun F H σ ε D R q => sd F H σ ε _ R ?_⟩
  unfold mSeq at q
  cases hm : m ε with
  | none => rw [hm] at q; exact q
  | some r =>
    rw [hm] at q
    cases r with
    | nx e => exact fun F2 H2 σ2 R2 s2 => sd2 F2 H2 σ2 e D R2 (q.mono s2)
    | rt d e => exact q
    | ro d e => exact q
    | bk e => exact q
    | ct e => exact q
    | ex x e => exact q
/-- an expression's answer, then -/
def mThen {α : Type} (f : Mo α) (k : α → MoS) : MoS := fun ε => match f ε with
  | some (.ok a ε') => k a ε'
  | some (.ex x ε') => some (.ex x ε')
  | none => none
theorem then_good {α : Type} {K : PySem.W.Frag} {F H : Hp} {σ : St} {ε : List Ent} {f : Mo α} {k : α → MoS} {D : Ends} (q : GoodS K C W F D (mThen f k ε)) : Good (f ε) (fun a ε' => GoodS K C W F D (k a ε')) (ExP K C W F H σ ε) := by
  unfold mThen at q
  cases hf : f ε with
  | none => rw [hf] at q; exact q
  | some r =>
    rw [hf] at q
    cases r with
    | ok a e => exact q
    | ex x e => exact fun c od F' H' R st r => q c od F' H' σ R st.ff r
def mAsg (t : Tg) (f : Mo D) : MoS := mThen f fun d ε => match t.parts d with
  | some ds => some (.nx (setL ε t.is ds))
  | none => none
theorem st_asgG {tgt : Expr} {g : TG} {t : Tg} (hp : ∀ te, PE X e te → PS X s (tAsg te g)) (sg : SdG X.K g t) (he : EvD X C W e f) : StD X C W s (mAsg t f) := by
  obtain ⟨te, p, sd⟩ := he
  refine ⟨_, hp _ p, fun F H σ ε D R q => ?_⟩
  refine sd F H σ ε _ R ((then_good q).imp (fun d e q1 v F1 H1 R1 st1 r1 => ?_) fun x e z => z)
  cases hps : t.parts d with
  | none => rw [hps] at q1; exact q1.elim
  | some ds =>
    rw [hps] at q1
    exact sg F1 H1 σ v d ds _ R1.fh r1 hps fun vs rx => q1 F1 H1 _ (R1.setL rx) st1.ff
def mSet (i : Nat) (f : Mo D) : MoS := mThen f fun d ε => some (.nx (ε.set i (.dat d)))
theorem st_set {i : Nat} (hp : ∀ te, PE X e te → PS X s (tAsg te (gName i))) (he : EvD X C W e f) : StD X C W s (mSet i f) := by
  obtain ⟨te, p, sd⟩ := he
  refine ⟨_, hp _ p, fun F H σ ε D R q => ?_⟩
  exact sd F H σ ε _ R ((then_good q).imp (fun d e q1 v F1 H1 R1 st1 r1 => q1 F1 H1 _ (R1.set i r1) st1.ff) fun x e z => z)
def mSetO (i : Nat) (f : Mo (List D)) : MoS := mThen f fun ds ε => some (.nx (ε.set i (.own ds)))
theorem st_setO {i : Nat} (hp : ∀ te, PE X e te → PS X s (tAsg te (gName i))) {f : Mo (List D)} (he : EvO X C W e f) : StD X C W s (mSetO i f) := by
  obtain ⟨te, p, sd⟩ := he
  refine ⟨_, hp _ p, fun F H σ ε D R q => ?_⟩
  exact sd F H σ ε _ R ((then_good q).imp (fun ds e q1 l vs F1 H1 R1 st1 h1 h2 h3 h4 h5 h6 => q1 F1 H1 _ (R1.setO i h1 h2 h3 h4 h5) st1.ff) fun x e z => z)
/-- y = [..]: a statement of its own -/
theorem st_lc {i : Nat} {y : Str} {py spos : Pos} {elt iter : Expr} {ifs : List Expr} {scope : Scope} {own : List (Str × Nat)} {g : TG} {t : Tg} {fi : Mo (List D)} {ft : Mo Bool} {fe : Mo D} (hc : X.calm = true) (hN : X.N.Nodup) (hy : X.N[i]? = some y) (hyl : X.env.scope.names.lookup y = some .local)
    (hsw : swapsWith (.ListComp elt [⟨tg, iter, ifs, 0⟩] scope pos) (some (.Name y py)) spos.line X.env = pure true) (hi : EiD X C W tg iter fi) (ok : BlkOk X.N X.env.scope scope own)
    (hg : ∀ (s : Shared) (H : Hp) (Ca : Addr) (cl : List (Str × Addr)) (fp : List Addr), PG (X.blk s H scope (compEnvC scope cl Ca X.env) fp) tg g) (sg : SdG X.K g t)
    (ht : ∀ (s : Shared) (H : Hp) (Ca : Addr) (cl : List (Str × Addr)) (fp : List Addr), PtD (X.blk s H scope (compEnvC scope cl Ca X.env) fp) C W0 ifs ft)
    (he : ∀ (s : Shared) (H : Hp) (Ca : Addr) (cl : List (Str × Addr)) (fp : List Addr), EvD (X.blk s H scope (compEnvC scope cl Ca X.env) fp) C W0 elt fe)
    (nd : (own.map (·.2)).Nodup) (hin : ∀ i ∈ t.is, i ∈ own.map (·.2)) (hs : ∀ x, foldedSetIterable iter X.env x = pure x := by intro _; rfl) :
    StD X C W (.Assign [.Name y py] (.ListComp elt [⟨tg, iter, ifs, 0⟩] scope pos) spos) (mSetO i (mLc (own.map (·.2)) fi t ft fe)) := by
  obtain ⟨wi, p, si⟩ := hi
  have sd := sd_lc (W := W) nd hin si sg (sd_canT (K := X.K) (C := C) (W := W0) (f := ft)) (sd_can (K := X.K) (C := C) (W := W0) (f := fe))
  refine ⟨_, ps_setLc (tt := canT X.K C W0 ft) (te := canE X.K C W0 fe) hc hN hy hyl hsw p ok hg (fun s H Ca cl fp => (ht s H Ca cl fp).can) (fun s H Ca cl fp => (he s H Ca cl fp).can) hs, fun F H σ ε D R q => ?_⟩
  exact sd F H σ ε _ R ((then_good q).imp (fun ds e q1 l vs F1 H1 R1 st1 h1 h2 h3 h4 h5 h6 => q1 F1 H1 _ (R1.setO i h1 h2 h3 h4 h5) st1.ff) fun x e z => z)
def mRet (f : Mo D) : MoS := mThen f fun d ε => some (.rt d ε)
theorem st_ret (he : EvD X C W e f) : StD X C W (.Return (some e) pos) (mRet f) := by
  obtain ⟨te, p, sd⟩ := he
  refine ⟨_, ps_ret p, fun F H σ ε D R q => ?_⟩
  exact sd F H σ ε _ R ((then_good q).imp (fun d e q1 v F1 H1 R1 st1 r1 => q1 v F1 H1 σ R1 st1.ff r1) fun x e z => z)
def mRetO (f : Mo (List D)) : MoS := mThen f fun ds ε => some (.ro ds ε)
theorem st_retO {f : Mo (List D)} (he : EvO X C W e f) : StD X C W (.Return (some e) pos) (mRetO f) := by
  obtain ⟨te, p, sd⟩ := he
  refine ⟨_, ps_ret p, fun F H σ ε D R q => ?_⟩
  exact sd F H σ ε _ R ((then_good q).imp (fun ds e q1 l vs F1 H1 R1 st1 h1 h2 h3 h4 h5 h6 => q1 l vs F1 H1 σ R1 st1.ff h1 h2 h3 h4) fun x e z => z)
def mDrop (f : Mo D) : MoS := mThen f fun _ ε => some (.nx ε)
theorem st_expr (he : EvD X C W e f) (hs : swapsWith e none pos.line X.env = pure false := by rfl) : StD X C W (.Expr e pos) (mDrop f) := by
  obtain ⟨te, p, sd⟩ := he
  refine ⟨_, ps_expr p hs, fun F H σ ε D R q => ?_⟩
  exact sd F H σ ε _ R ((then_good q).imp (fun d e q1 v F1 H1 R1 st1 r1 => q1 F1 H1 σ R1 st1.ff) fun x e z => z)
def mIfS (t : Mo Bool) (m m2 : MoS) : MoS := mThen t fun b => if b = true then m else m2
theorem st_if {t : Mo Bool} {sa sb : List Stmt} (hc : TeD X C W c t) (ha : SsD X C W sa m) (hb : SsD X C W sb m2) : StD X C W (.If c sa sb pos) (mIfS t m m2) := by
  obtain ⟨tc, p0, s0⟩ := hc
  obtain ⟨ta, p1, s1⟩ := ha
  obtain ⟨tb, p2, s2⟩ := hb
  refine ⟨_, ps_if p0 p1 p2, fun F H σ ε D R q => ?_⟩
  refine s0 F H σ ε _ R ((then_good q).imp (fun d e q1 F1 H1 R1 st1 => ?_) fun x e z => z)
  cases d with
  | true =>
    refine iteT ?_
    rw [if_pos rfl] at q1
    exact s1 F1 H1 σ e D R1 (q1.mono st1.ff)
  | false =>
    refine iteF ?_
    rw [if_neg Bool.false_ne_true] at q1
    exact s2 F1 H1 σ e D R1 (q1.mono st1.ff)
theorem st_pass : StD X C W (.Pass pos) mNil := ⟨_, ps_pass, fun F H σ ε D R q => q F H σ R (Same.refl F)⟩
theorem st_break : StD X C W (.Break pos) (fun ε => some (.bk ε)) := ⟨_, ps_break, fun F H σ ε D R q => q F H σ R (Same.refl F)⟩
theorem st_continue : StD X C W (.Continue pos) (fun ε => some (.ct ε)) := ⟨_, ps_continue, fun F H σ ε D R q => q F H σ R (Same.refl F)⟩
/-- xs.append(e) -/
def mApp (i : Nat) (f : Mo D) : MoS := fun ε0 => match (ε0[i]?).bind Ent.get with
  | none => none
  | some _ => mThen f (fun d ε => match ε[i]? with
    | none => none
    | some e => match e.get with
      | none => none
      | some ps => if ps.length < 1000000 then some (.nx (ε.set i (e.put (ps ++ [d])))) else none) ε0
theorem st_app {i : Nat} (hp : ∀ te, PE X e te → PS X s (tDrop (tBM X.K "list" rAppend (tVar i) (tCons te tNil)))) (he : EvD X C W e f) : StD X C W s (mApp i f) := by
  obtain ⟨te, p, sd⟩ := he
  refine ⟨_, hp _ p, fun F H σ ε D R q => ?_⟩
  unfold mApp at q
  cases h0 : ε[i]? with
  | none => rw [h0] at q; exact q.elim
  | some e0 =>
    cases h1 : e0.get with
    | none => rw [h0] at q; simp only [Option.bind_some, h1] at q; exact q.elim
    | some p0 =>
      rw [h0] at q
      simp only [Option.bind_some, h1] at q
      obtain ⟨l, us0, a0, b0, _⟩ := R.at h0 h1
      refine ⟨.ref l, a0, .inl ⟨rfl, us0, .inl (.inl b0)⟩, ?_⟩
      refine sd F H σ ε _ R ((then_good q).imp (fun d e q1 v F1 H1 R1 st1 r1 => ?_) fun x e z => z)
      cases h2 : e[i]? with
      | none => rw [h2] at q1; exact q1.elim
      | some e1 =>
        rw [h2] at q1
        dsimp only at q1
        cases h3 : e1.get with
        | none => rw [h3] at q1; exact q1.elim
        | some ps =>
          rw [h3] at q1
          dsimp only at q1
          by_cases hz : ps.length < 1000000
          · rw [if_pos hz] at q1
            obtain ⟨l2, us, a, b, c, d', hm⟩ := R1.at h2 h3
            rw [a0] at a
            cases a
            obtain ⟨R2, st2⟩ := R1.callQ (F' := F1) (H' := upd H1 l (.lst (us ++ [v]))) (ps' := ps ++ [d]) h2 h3 a0 (Same.refl F1) (fun x o q => by
              rw [upd_ne (fun z => by rw [z, c] at q; cases q)]; exact R1.fh x o q) (fun x o q n => by rw [upd_ne n]; exact q) (fun _ _ => rfl) upd_same (d'.append (.cons r1 .nil))
            exact ⟨l, us, v, rfl, rfl, b, by rw [d'.length]; exact Nat.lt_of_lt_of_le hz (by decide), q1 F1 _ σ R2 st1.ff⟩
          · rw [if_neg hz] at q1; exact q1.elim
/-! ### for -/
def forGo (t : Tg) (body : MoS) : List D → MoS
  | [] => fun ε => some (.nx ε)
  | d :: r => fun ε => match t.parts d with
    | none => none
    | some ds => match body (setL ε t.is ds) with
      | some (.nx ε') => forGo t body r ε'
      | some (.ct ε') => forGo t body r ε'
      | some (.bk ε') => some (.nx ε')
      | r => r
def mFor (fi : Mo (List D)) (t : Tg) (body : MoS) : MoS := mThen fi fun ds => forGo t body ds
theorem st_for {iter : Expr} {body : List Stmt} {g : TG} {t : Tg} {fi : Mo (List D)} (hi : EiD X C W tg iter fi) (hb : SsD X C W body m) (sg : SdG X.K g t)
    (hp : ∀ wi tb, PI X tg iter wi → PSs X body tb → PS X s (tFor wi g tb)) : StD X C W s (mFor fi t m) := by
  obtain ⟨wi, p1, si⟩ := hi
  obtain ⟨tb, p2, sb⟩ := hb
  refine ⟨_, hp _ _ p1 p2, fun F H σ ε D R q => ?_⟩
  refine si F H σ ε _ R ((then_good q).imp (fun ds e q1 J F1 H1 R1 st1 it => ?_) fun x e z => z)
  have q1 := q1.mono st1.ff
  refine ⟨fun i k σ' H' => k = ds.length - i ∧ i ≤ ds.length ∧ ∃ F' ε', Rep X.K C F' H' σ' ε' ∧ Same F1 F' ∧ GoodS X.K C W F' D (forGo t m (ds.drop i) ε'), ⟨ds.length, by simp, Nat.zero_le _, F1, e, R1, Same.refl F1, by rw [List.drop_zero]; exact q1⟩, ?_⟩
  rintro i k σ2 H2 ⟨rfl, hi, F2, ε2, R2, s12, gs⟩
  by_cases hlt : i < ds.length
  · refine .inr ⟨it.go F2 H2 i s12 R2.fh hlt, _, fun σ' H' w => ⟨ds.length - (i + 1), by omega, rfl, by omega, w⟩, fun x H3 y => ?_⟩
    obtain ⟨d, F3, hd, st3, rd⟩ := it.yl F2 H2 i x H3 s12 R2.fh hlt y
    have R3 := R2.step st3
    have hds : ds.drop i = d :: ds.drop (i + 1) := by
      obtain ⟨hl, e2⟩ := List.getElem?_eq_some_iff.mp hd
      rw [List.drop_eq_getElem_cons hl, e2]
    rw [hds] at gs
    unfold forGo at gs
    cases hps : t.parts d with
    | none => rw [hps] at gs; exact gs.elim
    | some ps =>
      rw [hps] at gs
      dsimp only at gs
      refine sg F3 H3 σ2 x d ps _ R3.fh rd hps fun xs rx => ?_
      have R4 := R3.setL (is := t.is) rx
      have gs := gs.mono st3.ff
      refine sb F3 H3 _ (setL ε2 t.is ps) _ R4 ?_
      cases hb : m (setL ε2 t.is ps) with
      | none => rw [hb] at gs; exact gs.elim
      | some r =>
        rw [hb] at gs
        cases r with
        | nx e5 => exact fun F5 H5 σ5 R5 s5 => ⟨F5, e5, R5, (s12.trans st3.ff).trans s5, gs.mono s5⟩
        | ct e5 => exact fun F5 H5 σ5 R5 s5 => ⟨F5, e5, R5, (s12.trans st3.ff).trans s5, gs.mono s5⟩
        | bk e5 => exact gs
        | rt d5 e5 => exact gs
        | ro d5 e5 => exact gs
        | ex x5 e5 => exact gs
  · have e0 : i = ds.length := by omega
    subst e0
    rw [List.drop_length] at gs
    exact .inl ⟨it.st F2 H2 _ s12 R2.fh (Nat.le_refl _), gs F2 H2 σ2 R2 (Same.refl F2)⟩
/-! ### while, by fuel -/
def whGo (t : Mo Bool) (body : MoS) : Nat → MoS
  | 0 => fun _ => none
  | n + 1 => mThen t fun b => if b = true then (fun ε => match body ε with
      | some (.nx ε') => whGo t body n ε'
      | some (.ct ε') => whGo t body n ε'
      | some (.bk ε') => some (.nx ε')
      | r => r) else fun ε => some (.nx ε)
theorem st_while {c : Expr} {body : List Stmt} {t : Mo Bool} {fuel : Nat} (hc : TeD X C W c t) (hb : SsD X C W body m) (hp : ∀ tc tb, PT X c tc → PSs X body tb → PS X s (tWhile tc tb)) : StD X C W s (whGo t m fuel) := by
  obtain ⟨tc, p1, s1⟩ := hc
  obtain ⟨tb, p2, sb⟩ := hb
  refine ⟨_, hp _ _ p1 p2, fun F H σ ε D R q => ?_⟩
  refine ⟨fun k σ' H' => ∃ F' ε', Rep X.K C F' H' σ' ε' ∧ GoodS X.K C W F' D (whGo t m k ε'), ⟨fuel, F, ε, R, q⟩, ?_⟩
  rintro k σ2 H2 ⟨F2, ε2, R2, gs⟩
  cases k with
  | zero => exact gs.elim
  | succ k =>
    refine s1 F2 H2 σ2 ε2 _ R2 ((then_good gs).imp (fun b e q1 F3 H3 R3 st3 => ?_) fun x e z => z)
    cases b with
    | false =>
      refine iteF ?_
      exact q1 F3 H3 σ2 R3 st3.ff
    | true =>
      refine iteT ?_
      rw [if_pos rfl] at q1
      refine ⟨fun σ' H' => ∃ F' ε', Rep X.K C F' H' σ' ε' ∧ GoodS X.K C W F' D (whGo t m k ε'), fun σ' H' w => ⟨k, Nat.lt_succ_self k, w⟩, ?_⟩
      refine sb F3 H3 _ e _ R3 ?_
      have q1 := q1.mono st3.ff
      cases hb : m e with
      | none => rw [hb] at q1; exact q1.elim
      | some r =>
        rw [hb] at q1
        cases r with
        | nx e5 => exact fun F5 H5 σ5 R5 s5 => ⟨F5, e5, R5, q1.mono s5⟩
        | ct e5 => exact fun F5 H5 σ5 R5 s5 => ⟨F5, e5, R5, q1.mono s5⟩
        | bk e5 => exact q1
        | rt d5 e5 => exact q1
        | ro d5 e5 => exact q1
        | ex x5 e5 => exact q1
end
end DL

set_option Elab.async false
set_option linter.all false
set_option maxRecDepth 100000
namespace DL
open PySem PySem.Spec L2

/-! ### defs -/
def ansOf : Option ResS → Option Ans
  | some (.nx _) => some (.ret .non)
  | some (.rt d _) => some (.ret d)
  | some (.ex x _) => some (.exc x)
  | _ => none
def env0 (n : Nat) (ds : List D) : List Ent := ds.map .dat ++ List.replicate (n - ds.length) .un
def runP (n : Nat) (g : MoS) (ds : List D) : Option Ans := ansOf (g (env0 n ds))
theorem rep_start {K : PySem.W.Frag} {F H : Hp} {vs : List V} {ds : List D} {N : List Str} (s : Same F H) (r : RepL K F vs ds) : Rep K ⟨F, H, noA, none⟩ F H (L2.start N vs) (env0 N.length ds) where
  fh := s
  ff := Same.refl F
  old := fun _ _ => rfl
  keep := fun _ _ h _ => h
  tr := fun _ h => h
  len := by
    unfold L2.start env0
    rw [List.length_append, List.length_append, List.length_map, List.length_map, List.length_replicate, List.length_replicate, r.length]
  ent := fun i e he => by
    unfold env0 at he
    unfold L2.start
    by_cases hi : i < ds.length
    · rw [List.getElem?_append_left (by rw [List.length_map]; exact hi), List.getElem?_map] at he
      rw [List.getElem?_append_left (by rw [List.length_map, r.length]; exact hi), List.getElem?_map]
      cases hd : ds[i]? with
      | none => rw [hd] at he; cases he
      | some d =>
        rw [hd] at he
        cases he
        obtain ⟨v, h1, h2⟩ := r.get hd
        exact ⟨v, by rw [h1]; rfl, h2⟩
    · rw [List.getElem?_append_right (by rw [List.length_map]; omega)] at he
      have := List.mem_of_getElem? he
      rw [List.eq_of_mem_replicate this]
      trivial
  dis := fun i j l e e' h1 h2 h3 h4 h5 h6 => by
    exfalso
    unfold env0 at h3
    have hm := List.mem_of_getElem? h3
    rcases List.mem_append.mp hm with h | h
    · obtain ⟨d, _, rfl⟩ := List.mem_map.mp h
      cases h5
    · rw [List.eq_of_mem_replicate h] at h5
      cases h5
section
variable {P : Program} {w : World} {K : PySem.W.Frag} {mg : Str → Option Value} {base : Heap}
abbrev CXX (P : Program) (w : World) : CXT := L2.CX P w
/-- a def without mutable arguments -/
theorem fn_P {x qual : Str} {st : Stmt} {f : Addr} {fd : FuncData} {N ps : List Str} {k : Nat} {g : MoS} {m : List D → Option Ans} (F : Fun K x qual st f fd) (S : FnScope N ps (defScope st))
    (hb : ∀ (cdv : Value) (A : Around) (outer : List Env) (s : Shared) (H : Hp) (E : XK) (C : Ct), C.A = noA → Room k (A.deeper (PyProof.Rows.envOfC qual (defScope st) s.heap.objs.size f cdv)) → Takes (cxOf (L2.CX P w) P w K mg base N qual (defScope st) f cdv A outer s H E) (fun c d _ H' => E c d H') →
      SsD (cxOf (L2.CX P w) P w K mg base N qual (defScope st) f cdv A outer s H E) C (fun c d _ H' => E c d H') (defBody st) g)
    (hm : ∀ ds a, ds.length = ps.length → m ds = some a → runP N.length g ds = some a) : FnOk P w K mg base (CXX P w) (k + 1) f fd ps (SpP K ps.length m) := by
  refine F.okX S (fun vs H Q E h => h.1) (fun cdv A outer s H vs Q E hr h => ?_)
  obtain ⟨hl, F0, ds, sF, r, h⟩ := h
  obtain ⟨ts, p, sd⟩ := hb cdv A outer s H E ⟨F0, H, noA, none⟩ rfl hr (takes_of rfl rfl rfl rfl)
  refine ⟨ts, p, sd F0 H _ (env0 N.length ds) _ (rep_start sF r) ?_⟩
  cases hmd : m ds with
  | none => rw [hmd] at h; exact h.elim
  | some a =>
    have ha := hm ds a (by rw [← r.length]; exact hl) hmd
    rw [hmd] at h
    have ste : ∀ {F' H' σ' ε'}, Rep K ⟨F0, H, noA, none⟩ F' H' σ' ε' → Ste F0 H F' H' := fun R => ⟨R.ff, R.fh, R.old, fun b o e => R.keep b o e (fun j => by intro z; cases z)⟩
    unfold runP ansOf at ha
    cases hg : g (env0 N.length ds) with
    | none => rw [hg] at ha; cases ha
    | some r2 =>
      rw [hg] at ha
      cases r2 with
      | nx e => cases ha; exact fun F' H' σ' R s2 => h .non F' H' (ste R) .non
      | rt d e => cases ha; exact fun v F' H' σ' R s2 rv => h v F' H' (ste R) rv
      | ex x e => cases ha; exact fun c od F' H' σ' R s2 rx => h c od F' H' (ste R) rx
      | ro d e => cases ha
      | bk e => cases ha
      | ct e => cases ha
/-- a def that gives a new list -/
def SpO (K : PySem.W.Frag) (n : Nat) (m : List D → Option (List D)) : Sp := fun vs H Q E => vs.length = n ∧ ∃ F ds, Same F H ∧ RepL K F vs ds ∧ match m ds with
  | some es => ∀ l us F' H', Ste F H F' H' → H' l = some (.lst us) → F' l = none → RepL K F' us es → H l = none → Q (.ref l) H'
  | none => False
theorem fn_O {x qual : Str} {st : Stmt} {f : Addr} {fd : FuncData} {N ps : List Str} {k : Nat} {g : MoS} {m : List D → Option (List D)} (F : Fun K x qual st f fd) (S : FnScope N ps (defScope st))
    (hb : ∀ (cdv : Value) (A : Around) (outer : List Env) (s : Shared) (H : Hp) (E : XK) (C : Ct), C.A = noA → Room k (A.deeper (PyProof.Rows.envOfC qual (defScope st) s.heap.objs.size f cdv)) → Takes (cxOf (L2.CX P w) P w K mg base N qual (defScope st) f cdv A outer s H E) (fun c d _ H' => E c d H') →
      SsD (cxOf (L2.CX P w) P w K mg base N qual (defScope st) f cdv A outer s H E) C (fun c d _ H' => E c d H') (defBody st) g)
    (hm : ∀ ds es, ds.length = ps.length → m ds = some es → ∃ ε, g (env0 N.length ds) = some (.ro es ε)) : FnOk P w K mg base (CXX P w) (k + 1) f fd ps (SpO K ps.length m) := by
  refine F.okX S (fun vs H Q E h => h.1) (fun cdv A outer s H vs Q E hr h => ?_)
  obtain ⟨hl, F0, ds, sF, r, h⟩ := h
  obtain ⟨ts, p, sd⟩ := hb cdv A outer s H E ⟨F0, H, noA, none⟩ rfl hr (takes_of rfl rfl rfl rfl)
  refine ⟨ts, p, sd F0 H _ (env0 N.length ds) _ (rep_start sF r) ?_⟩
  cases hmd : m ds with
  | none => rw [hmd] at h; exact h.elim
  | some es =>
    obtain ⟨ε, hg⟩ := hm ds es (by rw [← r.length]; exact hl) hmd
    rw [hmd] at h
    rw [hg]
    exact fun l us F' H' σ' R s2 h1 h2 h3 h4 => h l us F' H' ⟨R.ff, R.fh, R.old, fun b o e => R.keep b o e (fun j => by intro z; cases z)⟩ h1 h2 h3 h4
/-- a def whose first argument is a list that it changes -/
def envQ (n : Nat) (ps ds : List D) : List Ent := .io ps :: (ds.map .dat ++ List.replicate (n - (ds.length + 1)) .un)
def outQ : Option ResS → Option (Ans × List D)
  | some (.nx (.io ps :: _)) => some (.ret .non, ps)
  | some (.rt d (.io ps :: _)) => some (.ret d, ps)
  | some (.ex x (.io ps :: _)) => some (.exc x, ps)
  | _ => none
theorem rep_startQ {K : PySem.W.Frag} {F H : Hp} {l : Addr} {us vs : List V} {ps ds : List D} {N : List Str} (s : Same F H) (h1 : H l = some (.lst us)) (h2 : F l = none) (h3 : RepL K F us ps) (r : RepL K F vs ds) :
    Rep K ⟨F, H, oneA l, none⟩ F H (L2.start N (.ref l :: vs)) (envQ N.length ps ds) where
  fh := s
  ff := Same.refl F
  old := fun _ _ => rfl
  keep := fun _ _ h _ => h
  tr := fun _ h => h
  len := by
    have := r.length
    simp only [L2.start, envQ, List.length_append, List.length_map, List.length_cons, List.length_replicate]
    omega
  ent := fun i e he => by
    unfold envQ at he
    unfold L2.start
    cases i with
    | zero =>
      cases he
      exact ⟨l, us, rfl, h1, h2, h3, rfl⟩
    | succ i =>
      rw [List.getElem?_cons_succ] at he
      rw [List.map_cons, List.cons_append, List.getElem?_cons_succ]
      by_cases hi : i < ds.length
      · rw [List.getElem?_append_left (by rw [List.length_map]; exact hi), List.getElem?_map] at he
        rw [List.getElem?_append_left (by rw [List.length_map, r.length]; exact hi), List.getElem?_map]
        cases hd : ds[i]? with
        | none => rw [hd] at he; cases he
        | some d =>
          rw [hd] at he
          cases he
          obtain ⟨v, h1, h2⟩ := r.get hd
          exact ⟨v, by rw [h1]; rfl, h2⟩
      · rw [List.getElem?_append_right (by rw [List.length_map]; omega)] at he
        have := List.mem_of_getElem? he
        rw [List.eq_of_mem_replicate this]
        trivial
  dis := fun i j m e e' k1 k2 k3 k4 k5 k6 => by
    have only : ∀ (i : Nat) (e : Ent), (envQ N.length ps ds)[i]? = some e → e.mut = true → i = 0 := fun i e he hm => by
      cases i with
      | zero => rfl
      | succ i =>
        exfalso
        unfold envQ at he
        rw [List.getElem?_cons_succ] at he
        have hm2 := List.mem_of_getElem? he
        rcases List.mem_append.mp hm2 with h | h
        · obtain ⟨d, _, rfl⟩ := List.mem_map.mp h
          cases hm
        · rw [List.eq_of_mem_replicate h] at hm
          cases hm
    rw [only i e k3 k5, only j e' k4 k6]
theorem fn_Q {x qual : Str} {st : Stmt} {f : Addr} {fd : FuncData} {N ps : List Str} {k : Nat} {g : MoS} {m : List D → List D → Option (Ans × List D)} (F : Fun K x qual st f fd) (S : FnScope N ps (defScope st))
    (hb : ∀ (cdv : Value) (A : Around) (outer : List Env) (s : Shared) (H : Hp) (E : XK) (C : Ct), Room k (A.deeper (PyProof.Rows.envOfC qual (defScope st) s.heap.objs.size f cdv)) → Takes (cxOf (L2.CX P w) P w K mg base N qual (defScope st) f cdv A outer s H E) (fun c d _ H' => E c d H') →
      SsD (cxOf (L2.CX P w) P w K mg base N qual (defScope st) f cdv A outer s H E) C (fun c d _ H' => E c d H') (defBody st) g)
    (hm : ∀ pl ds a, ds.length + 1 = ps.length → m pl ds = some a → outQ (g (envQ N.length pl ds)) = some a) : FnOk P w K mg base (CXX P w) (k + 1) f fd ps (SpQ K ps.length m) := by
  refine F.okX S (fun vs H Q E h => h.1) (fun cdv A outer s H vs Q E hr h => ?_)
  obtain ⟨hl, F0, l, us, ws, pl, ds, rfl, sF, h1, h2, h3, r, h⟩ := h
  obtain ⟨ts, p, sd⟩ := hb cdv A outer s H E ⟨F0, H, oneA l, none⟩ hr (takes_of rfl rfl rfl rfl)
  refine ⟨ts, p, sd F0 H _ (envQ N.length pl ds) _ (rep_startQ sF h1 h2 h3 r) ?_⟩
  cases hmd : m pl ds with
  | none => rw [hmd] at h; exact h.elim
  | some a =>
    have ha := hm pl ds a (by rw [← r.length]; exact hl) hmd
    rw [hmd] at h
    have io : ∀ {F' H' σ' ps' r'}, Rep K ⟨F0, H, oneA l, none⟩ F' H' σ' (.io ps' :: r') → (∀ b o, H b = some o → b ≠ l → H' b = some o) ∧ ∃ us', H' l = some (.lst us') ∧ RepL K F' us' ps' := fun {F' H' σ' ps' r'} R => by
      refine ⟨fun b o e n => R.keep b o e (oneA_ne n), ?_⟩
      obtain ⟨l2, us', _, b, _, d, e⟩ := R.ent 0 _ rfl
      cases e
      exact ⟨us', b, d⟩
    unfold outQ at ha
    cases hg : g (envQ N.length pl ds) with
    | none => rw [hg] at ha; cases ha
    | some r2 =>
      rw [hg] at ha
      cases r2 with
      | nx e =>
        cases e with
        | nil => cases ha
        | cons e0 er =>
          cases e0 with
          | io ps' =>
            cases ha
            intro F' H' σ' R s2
            obtain ⟨k1, us', k2, k3⟩ := io R
            exact h .non F' H' us' s2 R.fh k1 R.old k2 k3 .non
          | _ => cases ha
      | rt d e =>
        cases e with
        | nil => cases ha
        | cons e0 er =>
          cases e0 with
          | io ps' =>
            cases ha
            intro v F' H' σ' R s2 rv
            obtain ⟨k1, us', k2, k3⟩ := io R
            exact h v F' H' us' s2 R.fh k1 R.old k2 k3 rv
          | _ => cases ha
      | ex x e =>
        cases e with
        | nil => cases ha
        | cons e0 er =>
          cases e0 with
          | io ps' =>
            cases ha
            intro c od F' H' σ' R s2 rx
            obtain ⟨k1, us', k2, k3⟩ := io R
            exact h c od F' H' us' s2 R.fh k1 R.old k2 k3 rx
          | _ => cases ha
      | ro d e => cases ha
      | bk e => cases ha
      | ct e => cases ha
end
section
variable {X : Cx} {C : Ct} {W : WX} {e : Expr}
/-- a call that gives a new list -/
def mFnO (n : Nat) (m : List D → Option (List D)) (f : Mo (List D)) : Mo (List D) := bnd f fun ds => lft (if ds.length = n then m ds else none)
theorem eo_fn {n : Nat} {m : List D → Option (List D)} {es : List Expr} {fs : Mo (List D)} (ha : EaD X C W es fs) (hp : ∀ ta, PA X es ta → PE X e (tCallS (SpO X.K n m) (WE W) ta)) : EvO X C W e (mFnO n m fs) := by
  obtain ⟨ta, p1, s1⟩ := ha
  refine ⟨_, hp _ p1, fun F H σ ε Q R q => ?_⟩
  refine s1 F H σ ε _ R (q.bind.imp (fun ds e q1 vs F1 H1 R1 st1 r1 => ?_) fun x e z => z)
  unfold lft at q1
  by_cases hl : ds.length = n
  · rw [if_pos hl] at q1
    refine ⟨by rw [r1.length]; exact hl, F1, ds, R1.fh, r1, ?_⟩
    cases hm : m ds with
    | none => rw [hm] at q1; exact q1.elim
    | some es =>
      rw [hm] at q1
      intro l us F' H' st h1 h2 h3 h4
      obtain ⟨a1, a2, a3⟩ := R1.newApart h4
      refine q1 l us F' H' (R1.step st) (st1.trans st.stp) h1 h2 h3 a2 a3 ?_
      cases qq : H l with
      | none => rfl
      | some o => exact absurd h4 (st1.tr l (by rw [qq]; exact fun z => by cases z))
  · rw [if_neg hl] at q1; exact q1.elim
end
/-! ### the law itself: a list of ints comes in, True comes out -/
def SpLaw (K : PySem.W.Frag) : Sp := fun vs H Q _ => ∃ (a : Addr) (ns : List Int), vs = [.ref a] ∧ SqL K H a (ns.map V.int) ∧ ns.length ≤ 63 ∧ (∀ z ∈ ns, Builtin.Int.intBits z ≤ 1048576) ∧ ∀ H', Q (.bl true) H'
theorem fn_law {P : Program} {w : World} {K : PySem.W.Frag} {mg : Str → Option Value} {base : Heap} {x qual : Str} {st : Stmt} {f : Addr} {fd : FuncData} {N : List Str} {k : Nat} {g : MoS} {p : Str} (F : Fun K x qual st f fd) (S : FnScope N [p] (defScope st))
    (hb : ∀ (cdv : Value) (A : Around) (outer : List Env) (s : Shared) (H : Hp) (E : XK) (C : Ct), C.A = noA → Room k (A.deeper (PyProof.Rows.envOfC qual (defScope st) s.heap.objs.size f cdv)) → Takes (cxOf (L2.CX P w) P w K mg base N qual (defScope st) f cdv A outer s H E) (fun c d _ H' => E c d H') →
      SsD (cxOf (L2.CX P w) P w K mg base N qual (defScope st) f cdv A outer s H E) C (fun c d _ H' => E c d H') (defBody st) g)
    (hm : ∀ ns : List Int, ns.length ≤ 63 → (∀ z ∈ ns, Builtin.Int.intBits z ≤ 1048576) → runP N.length g [.rdl (ns.map D.int)] = some (.ret (.bl true))) : FnOk P w K mg base (CXX P w) (k + 1) f fd [p] (SpLaw K) := by
  refine F.okX S (fun vs H Q E h => by obtain ⟨a, ns, rfl, _⟩ := h; rfl) (fun cdv A outer s H vs Q E hr h => ?_)
  obtain ⟨a, ns, rfl, hS, hl, hz, q⟩ := h
  obtain ⟨ts, p, sd⟩ := hb cdv A outer s H E ⟨H, H, noA, none⟩ rfl hr (takes_of rfl rfl rfl rfl)
  refine ⟨ts, p, sd H H _ (env0 N.length [.rdl (ns.map D.int)]) _ (rep_start (Same.refl H) (.cons (.rdl hS (RepL.of_ints ns)) .nil)) ?_⟩
  have ha := hm ns hl hz
  unfold runP ansOf at ha
  cases hg : g (env0 N.length [.rdl (ns.map D.int)]) with
  | none => rw [hg] at ha; cases ha
  | some r2 =>
    rw [hg] at ha
    cases r2 with
    | nx e => cases ha
    | rt d e =>
      cases ha
      intro v F' H' σ' R s2 rv
      rw [rep_bl rv]
      exact q H'
    | ex x e => cases ha
    | ro d e => cases ha
    | bk e => cases ha
    | ct e => cases ha
section
variable {X : Cx} {C : Ct} {W : WX}
theorem cl_fn {k n : Nat} {f : Addr} {fd : FuncData} {ps : List Str} {m : List D → Option Ans} {x : Str} {p pos : Pos} {e : Expr} {es : List Expr} {fs : Mo (List D)} (F : FnOk X.prog X.w X.K X.mg X.base (L2.CX X.prog X.w) k f fd ps (SpP X.K n m)) (tk : Takes X W) (hr : Room k X.A) (hg : Gl X x) (hm : X.mg x = some (.ref f)) (hk : PySem.W.keepIn X.K (.ref f) = true) (hb : Binds X.K fd ps [])
    (ha : EaD X C W (e :: es) fs) (hdb : (x == ("__debug__" : Str)) = false := by decide) (he : starEach (e :: es) X.env = (false, eval e X.env) :: starEach es X.env := by rfl) (hpl : (backTo pos (starEach es X.env)).any (·.1) = false := by rfl) :
    EvD X C W (.Call (.Name x p) (e :: es) [] pos) (mFn n m fs) := ev_fn ha fun _ pa => pe_callS F hr hg hm hk hb (fun σ => passAt tk σ) pa hdb he hpl
theorem cl_fnO {k n : Nat} {f : Addr} {fd : FuncData} {ps : List Str} {m : List D → Option (List D)} {x : Str} {p pos : Pos} {e : Expr} {es : List Expr} {fs : Mo (List D)} (F : FnOk X.prog X.w X.K X.mg X.base (L2.CX X.prog X.w) k f fd ps (SpO X.K n m)) (tk : Takes X W) (hr : Room k X.A) (hg : Gl X x) (hm : X.mg x = some (.ref f)) (hk : PySem.W.keepIn X.K (.ref f) = true) (hb : Binds X.K fd ps [])
    (ha : EaD X C W (e :: es) fs) (hdb : (x == ("__debug__" : Str)) = false := by decide) (he : starEach (e :: es) X.env = (false, eval e X.env) :: starEach es X.env := by rfl) (hpl : (backTo pos (starEach es X.env)).any (·.1) = false := by rfl) :
    EvO X C W (.Call (.Name x p) (e :: es) [] pos) (mFnO n m fs) := eo_fn ha fun _ pa => pe_callS F hr hg hm hk hb (fun σ => passAt tk σ) pa hdb he hpl
theorem cl_fnQ {k n i : Nat} {f : Addr} {fd : FuncData} {ps : List Str} {m : List D → List D → Option (Ans × List D)} {x : Str} {p pos : Pos} {e : Expr} {es : List Expr} {fs : Mo (List D)} (F : FnOk X.prog X.w X.K X.mg X.base (L2.CX X.prog X.w) k f fd ps (SpQ X.K n m)) (tk : Takes X W) (hr : Room k X.A) (hg : Gl X x) (hm : X.mg x = some (.ref f)) (hk : PySem.W.keepIn X.K (.ref f) = true) (hb : Binds X.K fd ps [])
    (hn : PE X e (tVar i)) (ha : EaD X C W es fs) (hdb : (x == ("__debug__" : Str)) = false := by decide) (he : starEach (e :: es) X.env = (false, eval e X.env) :: starEach es X.env := by rfl) (hpl : (backTo pos (starEach es X.env)).any (·.1) = false := by rfl) :
    EvD X C W (.Call (.Name x p) (e :: es) [] pos) (mFnQ i n m fs) := ev_fnQ hn ha fun _ pa => pe_callS F hr hg hm hk hb (fun σ => passAt tk σ) (pa_cons hn pa he) hdb he hpl
end
end DL

set_option Elab.async false
set_option linter.all false
set_option maxRecDepth 100000
/-! list(reversed(xs)) over the model -/
namespace DLR
open PySem PySem.W PyProof.Rows RT
open Sem (wp)
section
variable {prog : Program} {w : World} {A : Around} {E : Value → Shared → Prop} {s : Shared}
theorem ext_rev {R : Result → Shared → Prop} {it l S : Addr} {items : Array Value} (hh : A.handled = none) (hit : s.heap.IsRevIter it l ((items.size : Int) - 1)) (hl : s.heap.IsList l items) (hne : l ≠ it) (hn : items.size ≤ sizeLine) (res : Value) (c0 : Nat)
    (hS : s.heap.get? S = some { cls := .type "list", data := .seq #[] c0 }) (hSi : S ≠ it) (hSl : S ≠ l)
    (hR : ∀ h' tk acc' c', (∀ b o, b ≠ S → b ≠ it → s.heap.get? b = some o → h'.get? b = some o) → h'.get? S = some { cls := .type "list", dict := none, data := .seq acc' c', slots := #[] } →
      ItemsOf (fun i v => items[items.size - 1 - i]? = some v) acc' items.size → R (.ok (.ret res)) { s with heap := h', toks := tk }) :
    wpAny (model prog w) A.in1 (Builtin.List.listExtendWith (.ref S) (.ref it) res)
      (fun fin s' => match fin with | .done f => R (.ok f) s' | .again c' => c'.quiet = true ∧ codeAny (model prog w) A c' R s') (fun e s' => R (.error e) s') s := by
  have Wk := (Walks.listRev (prog := prog) (w := w) (A := A.in1) hh it l hne items).toS
  have nf : S ∉ [it, l] := by
    intro hm
    rcases List.mem_cons.mp hm with e | e
    · exact hSi e
    · exact hSl (List.mem_singleton.mp e)
  have tyI : s.TypeIs (.ref it) "list_reverseiterator" := Heap.IsRevIter.typeIs hit
  have dif : Builtin.List.listSameRef (.ref S) (.ref it) = false := by simp [Builtin.List.listSameRef, hSi]
  unfold Builtin.List.listExtendWith
  refine wpAny_bind (wpAny_typeOf tyI ?_)
  rw [if_neg (show ¬ ((Builtin.List.listSameRef (.ref S) (.ref it) || Value.type "list_reverseiterator" == Value.type "list" || Value.type "list_reverseiterator" == Value.type "tuple") = true) from by rw [dif]; decide)]
  refine wpAny_bind (wpAny_pyIter_revIter hit (wpAny_bind (wpAny_holding ?_)))
  unfold Builtin.List.listLengthHint
  refine wpAny_bind (wpAny_specialOf tyI nolen_lri (show wpAny _ A.in1 (specialOf (Value.ref it) (Str.ofString "__length_hint__") >>= _) _ _ _ from wpAny_bind (wpAny_specialOf tyI hint_lri ?_)))
  generalize hid : ("list_reverseiterator.__length_hint__" : String) = id1
  wp_delta
  rw [show splitId id1 = some ("list_reverseiterator", "__length_hint__") from by rw [← hid]; decide +kernel]
  subst hid
  refine wpAny_bind (wpAny_isInstance (b := true) tyI (by rw [isSubtype_type]; kernel_rfl) (wpAny_pure ?_))
  rw [if_neg (by decide)]
  have z0 : ((items.size : Nat) : Int) - 1 - ((0 : Nat) : Int) = (items.size : Int) - 1 := by omega
  refine wpAny_pure ⟨plainId_quiet F.plain_extend_loop _, codeAny_extend_loopS Wk hn _ nf _ items.size 0 _ _ _ rfl (Nat.zero_le _) ⟨Nat.zero_le _, (by rw [z0]; exact hit), hl⟩ hS (ItemsOf.nil _) fun s2 acc c mv k1 k2 => ?_⟩
  rw [Moved.eq_with mv]
  refine hR s2.heap s2.toks acc c (fun b ob nS nI e => mv.heap b ob (fun hm => ?_) e) k1 k2
  rcases List.mem_cons.mp hm with e' | hm
  · exact nS e'
  · exact nI (List.mem_singleton.mp hm)
theorem call_list_rev {it l : Addr} {items : Array Value} {Q : Value → Shared → Prop} (hh : A.handled = none) (hit : s.heap.IsRevIter it l ((items.size : Int) - 1)) (hl : s.heap.IsList l items) (hne : l ≠ it) (hn : items.size ≤ sizeLine)
    (hQ : ∀ h' tk acc c, (∀ b o, b ≠ it → s.heap.get? b = some o → h'.get? b = some o) → h'.get? s.heap.objs.size = some { cls := .type "list", dict := none, data := .seq acc c, slots := #[] } →
      ItemsOf (fun i v => items[items.size - 1 - i]? = some v) acc items.size → Q (.ref s.heap.objs.size) { s with heap := h', toks := tk }) :
    wpAny (model prog w) A (call (.type "list") [.ref it]) Q E s := by
  obtain ⟨oi, hoi, _⟩ := id hit
  obtain ⟨ol, hol, _⟩ := id hl
  refine callType_codes (Q₁ := fun obj s₁ => obj = .ref s.heap.objs.size ∧ s₁ = { s with heap := s.heap.push { cls := .type "list", data := .seq #[] } }) PySem.F.called_list (PySem.F.typeCall_list_1 _) PySem.F.entry_list_init (code_list_new _ ⟨rfl, rfl⟩) fun obj s₁ h₁ => ?_
  obtain ⟨rfl, rfl⟩ := h₁
  have g0 : (s.heap.push { cls := .type "list", data := .seq #[] }).get? s.heap.objs.size = some { cls := .type "list", data := .seq #[] } := Heap.get?_push_size _ rfl
  refine ⟨⟨_, g0, rfl⟩, PySem.F.args_list_init_2 _ _, ?_⟩
  show wpAny _ _ (do let old ← Builtin.List.listItems (.ref s.heap.objs.size); Builtin.List.listUpdate (.ref s.heap.objs.size) (fun _ => #[]); letGo old.toList.reverse; Builtin.List.listExtendWith (.ref s.heap.objs.size) (.ref it) .none) _ _ _
  refine wpAny_bind ?_
  unfold Builtin.List.listItems
  refine wpAny_bind (wpAny_seqItems g0 rfl (wpAny_pure ?_))
  show wpAny _ _ (updateSeq s.heap.objs.size (fun _ => #[]) >>= fun _ => letGo (#[] : Array Value).toList.reverse >>= fun _ => Builtin.List.listExtendWith (.ref s.heap.objs.size) (.ref it) .none) _ _ _
  refine wpAny_bind (wpAny_updateSeq g0 rfl ?_)
  have g1 := Heap.get?_update_self (Obj.mapSeq (fun _ => (#[] : Array Value))) g0 rfl
  have oth : ∀ b o, s.heap.get? b = some o → ((s.heap.push { cls := .type "list", data := .seq #[] }).update s.heap.objs.size (Obj.mapSeq (fun _ => (#[] : Array Value)))).get? b = some o := fun b o e =>
    (Heap.get?_update_other _ _ (Nat.ne_of_gt (Heap.lt_size e))).trans (Heap.get?_push_of_some _ e)
  refine wpAny_bind (wpAny_letGo ?_)
  refine ext_rev (A := A.in1) hh (hit.at fun o e => oth _ o e) (let ⟨o, h1, h2⟩ := hl; ⟨o, oth _ _ h1, h2⟩) hne hn .none _ g1 (Nat.ne_of_gt (Heap.lt_size hoi)) (Nat.ne_of_gt (Heap.lt_size hol)) fun h' tk acc c hk hS' hacc => ?_
  exact ⟨rfl, hQ h' tk acc c (fun b o hb e => hk b o (Nat.ne_of_lt (Heap.lt_size e)) hb (oth b o e)) hS' hacc⟩
end
section
open L2
variable {X : Cx}
def tLstRev (K : PySem.W.Frag) (te : TE) : TE := fun σ H Q => te σ H fun v H1 => ∃ (a : Addr) (xs : List V), v = .ref a ∧ SqL K H1 a xs ∧ ∀ q, H1 q = none → Q (.ref q) (upd H1 q (.lst xs.reverse))
theorem pe_listrev {e : Expr} {te : TE} {p p2 pos pos2 : Pos} (hc : X.calm = true) (hg : Gl X "list") (hm : X.mg "list" = none) (hg2 : Gl X "reversed") (hm2 : X.mg "reversed" = none) (he : PE X e te)
    (na : starEach [e] X.env = (false, eval e X.env) :: starEach [] X.env := by rfl)
    (nb : starEach [.Call (.Name "reversed" p2) [e] [] pos2] X.env = (false, eval (.Call (.Name "reversed" p2) [e] [] pos2) X.env) :: starEach [] X.env := by rfl) :
    PE X (.Call (.Name "list" p) [.Call (.Name "reversed" p2) [e] [] pos2] [] pos) (tLstRev X.K te) := by
  refine ⟨fun pins s σ H Q I h => Call_ (ld_blt I hg hm boot_list (PyProof.Rows.callWith_type1 (args_cons (Call_ (ld_blt I hg2 hm2 PyProof.Rows.boot_reversed (PyProof.Rows.callWith_type1 (args_cons (thn (he.run pins s σ H _ I h) fun u s1 ⟨v, H1, I1, r1, q1⟩ => args_nil ?_) na) na rfl))) nb) nb rfl))⟩
  obtain ⟨a, xs, rfl, hq, q⟩ := q1
  obtain rfl : u = Value.ref a := r1
  obtain ⟨its, rv, p', hz⟩ := I1.list hq
  have hl := p'.isList
  obtain ⟨ol, hol, _⟩ := id hl
  refine call_reversed_list hl (args_nil ?_)
  have J : Inv X pins σ H1 { s1 with heap := s1.heap.push (revObj a ((its.toArray.size : Int) - 1)) } := I1.kept (t' := s1.toks) fun b o e => Heap.get?_push_of_some _ e
  have fp : FpOk X pins H1 s1.heap.objs.size := I1.fpOk (H' := H1) (Nat.le_refl _) (I1.hok.fresh (Nat.le_refl _))
  have big : its.toArray.size ≤ sizeLine := by rw [List.size_toArray, ← rv.length]; exact hz
  refine call_list_rev (s := { s1 with heap := s1.heap.push (revObj a ((its.toArray.size : Int) - 1)) }) (I1.ok.hd hc) ⟨_, Heap.get?_push_size _ rfl, rfl, rfl⟩ (hl.push _) (Nat.ne_of_lt (Heap.lt_size hol)) big fun h' tk acc c' hk e' hi => ?_
  refine ⟨.ref _, _, J.turnedNew (t' := tk) (ch := [s1.heap.objs.size]) (T := (s1.heap.push (revObj a ((its.toArray.size : Int) - 1))).objs.size) (ob := .lst xs.reverse) (fun b o hb e => hk b o (fun z => hb (by simp [z])) e) (fun b hb => by
      rw [List.mem_singleton.mp hb]; exact fp) (Nat.le_refl _) ⟨by rw [List.length_reverse]; exact hz, acc.toList, c', vals_rev rv hi, ?_⟩, rfl, q _ (J.hok.fresh (Nat.le_refl _))⟩
  rw [Array.toArray_toList]
  exact e'
end
end DLR
namespace DL
open PySem PySem.Spec L2
section
variable {X : Cx} {C : Ct} {W : WX} {a b e : Expr} {f g : Mo D}
def mListRev (f : Mo D) : Mo (List D) := bnd f fun d => lft ((lstOf d).map List.reverse)
theorem eo_listrev (ha : EvD X C W a f) (hp : ∀ te, PE X a te → PE X e (DLR.tLstRev X.K te)) : EvO X C W e (mListRev f) := by
  obtain ⟨te, p1, s1⟩ := ha
  refine ⟨_, hp _ p1, fun F H σ ε Q R q => ?_⟩
  refine s1 F H σ ε _ R (q.bind.imp (fun d e q1 v F1 H1 R1 st1 r1 => ?_) fun x e z => z)
  cases d with
  | lst ds =>
    obtain ⟨p, xs, rfl, h, r⟩ := rep_seqs r1
    exact ⟨p, xs, rfl, Same.seq R1.fh h, fun l hl => ok_new R R1 st1 r.reverse q1 hl⟩
  | rdl ds =>
    obtain ⟨p, xs, rfl, h, r⟩ := rep_rdl r1
    exact ⟨p, xs, rfl, Same.seq R1.fh h, fun l hl => ok_new R R1 st1 r.reverse q1 hl⟩
  | _ => exact q1.elim
/-! an item of a list of one's own, the list left as it is -/
def mItemN (i : Nat) (g : Mo D) : Mo D := fun ε0 => match (ε0[i]?).bind Ent.get with
  | none => none
  | some _ => bnd g (fun k ε => match (ε[i]?).bind Ent.get with
    | none => none
    | some ps => match k with
      | .int j => (match atI ps j with
        | some d => some (.ok d ε)
        | none => none)
      | _ => none) ε0
theorem ev_itemN (i : Nat) (hm : PlainIx b) (hb : EvD X C W b g) (hp : ∀ (ta : TE) tb, PE X b tb → PE X e (tOp (rIx X.K) (tVar i) tb)) : EvD X C W e (mItemN i g) := by
  obtain ⟨tb, p2, s2⟩ := hb
  refine ⟨_, hp tb _ p2, fun F H σ ε Q R q => ?_⟩
  unfold mItemN at q
  cases h0 : ε[i]? with
  | none => rw [h0] at q; exact q.elim
  | some e0 =>
    rw [h0] at q
    simp only [Option.bind_some] at q
    cases h1 : e0.get with
    | none => rw [h1] at q; exact q.elim
    | some p0 =>
      rw [h1] at q
      obtain ⟨l, us0, a0, b0, _⟩ := R.at h0 h1
      refine ⟨.ref l, a0, ?_⟩
      refine s2 F H σ ε _ R (q.bind.imp (fun d e q1 v F1 H1 R1 st1 r1 => ?_) fun x e z => z)
      cases h2 : e[i]? with
      | none => rw [h2] at q1; exact q1.elim
      | some e1 =>
        rw [h2] at q1
        simp only [Option.bind_some] at q1
        cases h3 : e1.get with
        | none => rw [h3] at q1; exact q1.elim
        | some ps =>
          rw [h3] at q1
          cases d with
          | int j =>
            dsimp only at q1
            cases h4 : atI ps j with
            | none => rw [h4] at q1; exact q1.elim
            | some y =>
              rw [h4] at q1
              obtain ⟨l2, us, a, b, c, d', hm⟩ := R1.at h2 h3
              rw [a0] at a
              cases a
              obtain ⟨w, g1, g2⟩ := atI_rep d' h4
              exact .inl ⟨l, us, j, w, rfl, rep_int r1, .inl (.inl b), g1, q1 w F1 H1 R1 st1 g2⟩
          | _ => exact q1.elim
/-! xs[i] = v of a list of one's own -/
def mPut (i : Nat) (fv fk : Mo D) : MoS := mThen fv fun d ε1 => match (ε1[i]?).bind Ent.get with
  | none => none
  | some _ => mThen fk (fun k ε => match ε[i]? with
    | none => none
    | some e => match e.get with
      | none => none
      | some ps => match k with
        | .int j => (match ixN ps.length j with
          | some n => some (.nx (ε.set i (e.put (ps.set n d))))
          | none => none)
        | _ => none) ε1
theorem st_put {i : Nat} {s : Stmt} {v k : Expr} (hp : ∀ te tk, PE X v te → PE X k tk → PS X s (tAsg te (L2.gSub (tVar i) tk rSetL))) (hv : EvD X C W v f) (hk : EvD X C W k g) : StD X C W s (mPut i f g) := by
  obtain ⟨te, p1, s1⟩ := hv
  obtain ⟨tk, p2, s2⟩ := hk
  refine ⟨_, hp _ _ p1 p2, fun F H σ ε D R q => ?_⟩
  refine s1 F H σ ε _ R ((then_good q).imp (fun d e q1 v F1 H1 R1 st1 r1 => ?_) fun x e z => z)
  cases h0 : e[i]? with
  | none => rw [h0] at q1; exact q1.elim
  | some e0 =>
    rw [h0] at q1
    simp only [Option.bind_some] at q1
    cases h1 : e0.get with
    | none => rw [h1] at q1; exact q1.elim
    | some p0 =>
      rw [h1] at q1
      obtain ⟨l, us0, a0, b0, _⟩ := R1.at h0 h1
      refine ⟨.ref l, a0, ?_⟩
      refine s2 F1 H1 σ e _ R1 ((then_good (q1.mono st1.ff)).imp (fun kd e2 q2 w F2 H2 R2 st2 r2 => ?_) fun x e z => z)
      cases h2 : e2[i]? with
      | none => rw [h2] at q2; exact q2.elim
      | some e1 =>
        rw [h2] at q2
        dsimp only at q2
        cases h3 : e1.get with
        | none => rw [h3] at q2; exact q2.elim
        | some ps =>
          rw [h3] at q2
          cases kd with
          | int j =>
            dsimp only at q2
            cases h4 : ixN ps.length j with
            | none => rw [h4] at q2; exact q2.elim
            | some n =>
              rw [h4] at q2
              obtain ⟨l2, us, a, b, c, d', hm⟩ := R2.at h2 h3
              rw [a0] at a
              cases a
              obtain ⟨R3, st3⟩ := R2.callQ (F' := F2) (H' := upd H2 l (.lst (us.set n v))) (ps' := ps.set n d) h2 h3 a0 (Same.refl F2) (fun x o q => by
                rw [upd_ne (fun z => by rw [z, c] at q; cases q)]; exact R2.fh x o q) (fun x o q n => by rw [upd_ne n]; exact q) (fun _ _ => rfl) upd_same (d'.set (r1.mono st2.ff) n)
              exact ⟨l, us, j, n, rfl, rep_int r2, b, by rw [d'.length]; exact h4, q2 F2 _ σ R3 st2.ff⟩
          | _ => exact q2.elim
/-! return of a name that holds a list of one's own, as one's own -/
def mRetOwn (i : Nat) : MoS := fun ε => match ε[i]? with
  | some (.own ds) => some (.ro ds ε)
  | _ => none
theorem st_retOwn {e : Expr} {pos : Pos} (i : Nat) (hp : PE X e (tVar i)) : StD X C W (.Return (some e) pos) (mRetOwn i) := by
  refine ⟨_, ps_ret hp, fun F H σ ε D R q => ?_⟩
  unfold mRetOwn at q
  cases h0 : ε[i]? with
  | none => rw [h0] at q; exact q.elim
  | some e0 =>
    rw [h0] at q
    cases e0 with
    | own ds =>
      obtain ⟨l, us, a, b, c, d, g⟩ := R.ent i _ h0
      exact ⟨.ref l, a, q l us F H σ R (Same.refl F) b c d g⟩
    | _ => exact q.elim
def mRetN : MoS := fun ε => some (.rt .non ε)
theorem st_retN {pos : Pos} : StD X C W (.Return none pos) mRetN := ⟨_, ps_retN, fun F H σ ε D R q => q .non F H σ R (Same.refl F) .non⟩
/-! x += e of ints -/
def mAug (g : D → D → Option D) (i : Nat) (f : Mo D) : MoS := fun ε => match ε[i]? with
  | some (.dat x) => mThen f (fun y ε' => match g x y with
    | some z => some (.nx (ε'.set i (.dat z)))
    | none => none) ε
  | _ => none
theorem st_augAdd {i : Nat} {s : Stmt} {v : Expr} (hp : ∀ te, PE X v te → PS X s (tAug i te (ipI fun a b => a + b))) (hv : EvD X C W v f) : StD X C W s (mAug gAdd i f) := by
  obtain ⟨te, p1, s1⟩ := hv
  refine ⟨_, hp _ p1, fun F H σ ε D R q => ?_⟩
  unfold mAug at q
  cases h0 : ε[i]? with
  | none => rw [h0] at q; exact q.elim
  | some e0 =>
    rw [h0] at q
    cases e0 with
    | dat x =>
      obtain ⟨xv, a, rx⟩ := R.ent i _ h0
      refine ⟨xv, a, ?_⟩
      refine s1 F H σ ε _ R ((then_good q).imp (fun d e q1 v F1 H1 R1 st1 r1 => ?_) fun x e z => z)
      cases hg : gAdd x d with
      | none => rw [hg] at q1; exact q1.elim
      | some z =>
        rw [hg] at q1
        obtain ⟨i1, j1, rfl, rfl, _, rfl⟩ := gI_of hg
        exact ⟨i1, j1, rep_int rx, rep_int r1, q1 F1 H1 _ (R1.set i (.int _)) st1.ff⟩
    | _ => exact q.elim
/-! the truth of a list, a tuple -/
def gTruth : D → Option Bool
  | .lst ds => some (!ds.isEmpty)
  | .rdl ds => some (!ds.isEmpty)
  | .tup ds => some (!ds.isEmpty)
  | _ => none
theorem empt {K : PySem.W.Frag} {F : Hp} {xs : List V} {ds : List D} (r : RepL K F xs ds) : xs.isEmpty = ds.isEmpty := by
  cases r <;> rfl
/-! sequences by what they are -/
def gMaxT (d : D) : Option D := match d with
  | .tup ds => (intsOf ds).bind fun ns => if 0 < ns.length then some (.int (maxI ns)) else none
  | _ => none
def gMinT (d : D) : Option D := match d with
  | .tup ds => (intsOf ds).bind fun ns => if 0 < ns.length then some (.int (minI ns)) else none
  | _ => none
theorem ei_str {tg : Expr} (he : EvD X C W e f) : EiD X C W tg e (bnd f fun d => lft (match d with
    | .str x => some (x.cps.toList.map fun c => D.str ⟨#[c]⟩)
    | _ => none)) := by
  obtain ⟨te, p1, s1⟩ := he
  refine ⟨_, pi_str p1, fun F H σ ε R R0 q => ?_⟩
  refine s1 F H σ ε _ R0 (q.bind.imp (fun d e q1 v F1 H1 R1 st1 r1 => ?_) fun x e z => z)
  cases d with
  | str x =>
    refine ⟨x, rep_str r1, q1 _ F1 H1 R1 st1 ⟨fun F' H' i _ _ hi => ?_, fun F' H' i y H2 _ s2 hi ⟨e, c, h1, h2⟩ => ?_, fun F' H' i _ _ hi => ?_⟩⟩
    · rw [List.length_map] at hi
      show i < x.cps.size
      simpa using hi
    · subst e h2
      refine ⟨.str ⟨#[c]⟩, F', ?_, Ste.refl s2, .str _⟩
      rw [List.getElem?_map, Array.getElem?_toList, h1]; rfl
    · rw [List.length_map] at hi
      show x.cps.size ≤ i
      simpa using hi
  | _ => exact q1.elim
end
end DL

set_option Elab.async false
set_option linter.all false
set_option maxRecDepth 100000
/-! max and min of a tuple of ints -/
namespace DLM
open PySem PySem.W PyProof.Rows L2
section
variable {prog : Program} {w : World} {A : Around} {E : Value → Shared → Prop} {s : Shared} {t : Addr} {its : List Value} {ns : List Int} {Q : Value → Shared → Prop}
theorem maxT_raw (hh : A.handled = none) (ht : s.heap.IsTuple t its.toArray) (hi : IntsAre its ns) (hne : 0 < ns.length)
    (q : ∀ h' tk M u, (∀ b o, s.heap.get? b = some o → h'.get? b = some o) → M ∈ ns → (∀ a, a ∈ ns → a ≤ M) → Q (.int M u) { s with heap := h', toks := tk }) : wpAny (model prog w) A (call (.builtin "max") [.ref t]) Q E s := by
  obtain ⟨xs, e⟩ := hi.allInts.items
  have en : numsOf (intItems xs).toList = ns := by rw [← e]; exact hi.numsOf
  rw [nums_intItems] at en
  subst en
  rw [e] at ht
  have pos : 0 < xs.size := by simpa using hne
  obtain ⟨ot, hot, _⟩ := id ht
  refine call_max_walk (wpAny_pyIter_tuple ht ?_)
  refine ⟨_, [_, t], [_], _, _, _, _, rfl, Walks.tuple (A := A.in1) hh _ t (Nat.ne_of_lt (Heap.lt_size hot)) (intItems xs), ⟨⟨_, Heap.get?_push_size _ rfl, rfl, rfl⟩, (let ⟨o, a, b⟩ := ht; ⟨o, Heap.get?_push_of_some _ a, b⟩)⟩, fun c hc => ?_, by simpa [intItems] using pos, CmpOf.ints_gt (numAt xs) (fun _ _ => intItems_at), fun v h' tk hP hk => ?_⟩
  · rw [Heap.size_push]
    rcases List.mem_cons.mp hc with z | z
    · rw [z]; exact Nat.lt_succ_self _
    · rw [List.mem_singleton.mp z]; exact Nat.lt_succ_of_lt (Heap.lt_size hot)
  · have hv : (intItems xs)[argBest (fun i j => decide (numAt xs i > numAt xs j)) (xs.size - 1)]? = some v := by simpa [intItems] using hP
    obtain ⟨u, rfl⟩ := intItems_at hv
    obtain ⟨b1, b2⟩ := argBest_gt (numAt xs) (xs.size - 1)
    refine q h' tk _ u (fun b o z => hk b o (fun hm => ?_) (Heap.get?_push_of_some _ z)) ?_ fun a ha => ?_
    · rw [List.mem_singleton.mp hm] at z; exact absurd (Heap.lt_size z) (Nat.lt_irrefl _)
    · rw [numAt_eq]; exact PySem.getD_mem (by rw [List.length_map, Array.length_toList]; omega)
    · obtain ⟨j, hj, rfl⟩ := mem_getD ha
      rw [List.length_map, Array.length_toList] at hj
      rw [← numAt_eq]; exact b2 j (by omega)
theorem minT_raw (hh : A.handled = none) (ht : s.heap.IsTuple t its.toArray) (hi : IntsAre its ns) (hne : 0 < ns.length)
    (q : ∀ h' tk M u, (∀ b o, s.heap.get? b = some o → h'.get? b = some o) → M ∈ ns → (∀ a, a ∈ ns → M ≤ a) → Q (.int M u) { s with heap := h', toks := tk }) : wpAny (model prog w) A (call (.builtin "min") [.ref t]) Q E s := by
  obtain ⟨xs, e⟩ := hi.allInts.items
  have en : numsOf (intItems xs).toList = ns := by rw [← e]; exact hi.numsOf
  rw [nums_intItems] at en
  subst en
  rw [e] at ht
  have pos : 0 < xs.size := by simpa using hne
  obtain ⟨ot, hot, _⟩ := id ht
  refine call_min_walk (wpAny_pyIter_tuple ht ?_)
  refine ⟨_, [_, t], [_], _, _, _, _, rfl, Walks.tuple (A := A.in1) hh _ t (Nat.ne_of_lt (Heap.lt_size hot)) (intItems xs), ⟨⟨_, Heap.get?_push_size _ rfl, rfl, rfl⟩, (let ⟨o, a, b⟩ := ht; ⟨o, Heap.get?_push_of_some _ a, b⟩)⟩, fun c hc => ?_, by simpa [intItems] using pos, CmpOf.ints_lt (numAt xs) (fun _ _ => intItems_at), fun v h' tk hP hk => ?_⟩
  · rw [Heap.size_push]
    rcases List.mem_cons.mp hc with z | z
    · rw [z]; exact Nat.lt_succ_self _
    · rw [List.mem_singleton.mp z]; exact Nat.lt_succ_of_lt (Heap.lt_size hot)
  · have hv : (intItems xs)[argBest (fun i j => decide (numAt xs i < numAt xs j)) (xs.size - 1)]? = some v := by simpa [intItems] using hP
    obtain ⟨u, rfl⟩ := intItems_at hv
    obtain ⟨b1, b2⟩ := argBest_lt (numAt xs) (xs.size - 1)
    refine q h' tk _ u (fun b o z => hk b o (fun hm => ?_) (Heap.get?_push_of_some _ z)) ?_ fun a ha => ?_
    · rw [List.mem_singleton.mp hm] at z; exact absurd (Heap.lt_size z) (Nat.lt_irrefl _)
    · rw [numAt_eq]; exact PySem.getD_mem (by rw [List.length_map, Array.length_toList]; omega)
    · obtain ⟨j, hj, rfl⟩ := mem_getD ha
      rw [List.length_map, Array.length_toList] at hj
      rw [← numAt_eq]; exact b2 j (by omega)
end
section
variable {X : Cx}
def rMaxT (K : PySem.W.Frag) : List V → Hp → VK → Prop := fun vs H Q => ∃ (a : Addr) (ns : List Int), vs = [V.ref a] ∧ SqT K H a (ns.map V.int) ∧ 0 < ns.length ∧ ∀ m, m ∈ ns → (∀ y, y ∈ ns → y ≤ m) → Q (.int m) H
def rMinT (K : PySem.W.Frag) : List V → Hp → VK → Prop := fun vs H Q => ∃ (a : Addr) (ns : List Int), vs = [V.ref a] ∧ SqT K H a (ns.map V.int) ∧ 0 < ns.length ∧ ∀ m, m ∈ ns → (∀ y, y ∈ ns → m ≤ y) → Q (.int m) H
theorem cr_maxT (hc : X.calm = true) : CallR X (.builtin "max") (rMaxT X.K) := by
  intro pins s σ H vs us Q I r ⟨a, ns, e, hs, hne, q⟩
  subst e
  obtain ⟨its, rv, ht, _⟩ := I.tuple hs
  rw [Vals.ref1 r]
  exact maxT_raw (I.ok.hd hc) ht rv.ints hne fun h' tk m u hk h1 h2 => ⟨.int _, H, I.kept hk, ⟨_, rfl⟩, q m h1 h2⟩
theorem cr_minT (hc : X.calm = true) : CallR X (.builtin "min") (rMinT X.K) := by
  intro pins s σ H vs us Q I r ⟨a, ns, e, hs, hne, q⟩
  subst e
  obtain ⟨its, rv, ht, _⟩ := I.tuple hs
  rw [Vals.ref1 r]
  exact minT_raw (I.ok.hd hc) ht rv.ints hne fun h' tk m u hk h1 h2 => ⟨.int _, H, I.kept hk, ⟨_, rfl⟩, q m h1 h2⟩
end
end DLM
namespace DL
open PySem PySem.Spec L2 DLM
section
variable {K : PySem.W.Frag}
theorem vc_maxT : VCall K (rMaxT K) (gOne gMaxT) := by
  intro F H xs ds c Q s r hg q
  obtain ⟨x, d, rfl, rfl, rd, hd⟩ := one_of r hg
  unfold gMaxT at hd
  split at hd
  · simp only [Option.bind_eq_some_iff] at hd
    obtain ⟨ns, e1, e2⟩ := hd
    split at e2
    · rename_i h0
      cases e2
      obtain ⟨a, xs, rfl, h, r2⟩ := rep_tup rd
      have := ints_eq e1
      subst this
      rw [RepL.ints r2] at h
      refine ⟨a, ns, rfl, seqT s h, h0, fun m h1 h2 => ?_⟩
      have sp := maxI_spec ns (by intro z; rw [z] at h0; simp at h0)
      have e : m = maxI ns := Int.le_antisymm (sp.2 m h1) (h2 _ sp.1)
      subst e
      exact q _ F H (Ste.refl s) (.int _)
    · cases e2
  · cases hd
theorem vc_minT : VCall K (rMinT K) (gOne gMinT) := by
  intro F H xs ds c Q s r hg q
  obtain ⟨x, d, rfl, rfl, rd, hd⟩ := one_of r hg
  unfold gMinT at hd
  split at hd
  · simp only [Option.bind_eq_some_iff] at hd
    obtain ⟨ns, e1, e2⟩ := hd
    split at e2
    · rename_i h0
      cases e2
      obtain ⟨a, xs, rfl, h, r2⟩ := rep_tup rd
      have := ints_eq e1
      subst this
      rw [RepL.ints r2] at h
      refine ⟨a, ns, rfl, seqT s h, h0, fun m h1 h2 => ?_⟩
      have sp := minI_spec ns (by intro z; rw [z] at h0; simp at h0)
      have e : m = minI ns := Int.le_antisymm (h2 _ sp.1) (sp.2 m h1)
      subst e
      exact q _ F H (Ste.refl s) (.int _)
    · cases e2
  · cases hd
end
end DL

set_option Elab.async false
set_option linter.all false
set_option maxRecDepth 100000
namespace DL
open PySem PySem.Spec L2
section
variable {X : Cx} {C : Ct} {W : WX} {a b e : Expr} {f g : Mo D} {pos : Pos}
/-! ### a dict's display, whose contents are not told -/
inductive RepPs (K : PySem.W.Frag) (F : Hp) : List (V × V) → List (D × D) → Prop
  | nil : RepPs K F [] []
  | cons {x y : V} {d e : D} {ps : List (V × V)} {qs : List (D × D)} : RepD K F x d → RepD K F y e → RepPs K F ps qs → RepPs K F ((x, y) :: ps) ((d, e) :: qs)
def EpD (X : Cx) (C : Ct) (W : WX) (pos : Pos) (keys : List (Option Expr)) (vals : List Expr) (f : Mo (List (D × D))) : Prop := ∃ trs, PPs X pos keys vals trs ∧ ∀ F H σ ε Q, Rep X.K C F H σ ε →
  Good (f ε) (fun qs ε' => ∀ ps F' H', Rep X.K C F' H' σ ε' → Stp σ ε ε' F H F' H' → RepPs X.K F' ps qs → Q ps H') (ExP X.K C W F H σ ε) → tPairs trs σ H Q
theorem ep_nil : EpD X C W pos [] [] (pur []) := ⟨_, pps_nil, fun F H σ ε Q R q => q [] F H R Stp.refl .nil⟩
theorem RepPs.mono {K : PySem.W.Frag} {F F' : Hp} (s : Same F F') : ∀ {ps : List (V × V)} {qs : List (D × D)}, RepPs K F ps qs → RepPs K F' ps qs
  | _, _, .nil => .nil
  | _, _, .cons h1 h2 r => .cons (h1.mono s) (h2.mono s) (RepPs.mono s r)
theorem ep_cons {k v : Expr} {ks : List (Option Expr)} {vs : List Expr} {h : Mo (List (D × D))} (hk : EvD X C W k f) (hv : EvD X C W v g) (hr : EpD X C W pos ks vs h) : EpD X C W pos (some k :: ks) (v :: vs) (bnd f fun d => bnd g fun e => bnd h fun r => pur ((d, e) :: r)) := by
  obtain ⟨tk, p1, s1⟩ := hk
  obtain ⟨tv, p2, s2⟩ := hv
  obtain ⟨tr, p3, s3⟩ := hr
  refine ⟨_, pps_cons p1 p2 p3, fun F H σ ε Q R q => ?_⟩
  refine s1 F H σ ε _ R (q.bind.imp (fun d e q1 v F1 H1 R1 st1 r1 => ?_) fun x e z => z)
  refine s2 F1 H1 σ e _ R1 (q1.bind.imp (fun d2 e2 q2 v2 F2 H2 R2 st2 r2 => ?_) fun x e z => z.imp st1)
  refine s3 F2 H2 σ e2 _ R2 (q2.bind.imp (fun d3 e3 q3 ps F3 H3 R3 st3 r3 => ?_) fun x e z => z.imp (st1.trans st2))
  exact q3 ((v, v2) :: ps) F3 H3 R3 ((st1.trans st2).trans st3) (.cons ((r1.mono st2.ff).mono st3.ff) (r2.mono st3.ff) r3)
/-- int keys -/
def intKeys : List (D × D) → Bool
  | [] => true
  | (.int _, _) :: r => intKeys r
  | _ => false
def mDct (f : Mo (List (D × D))) : Mo D := bnd f fun qs => lft (if intKeys qs = true ∧ qs.length ≤ 15 then some .dct else none)
theorem keys_of {K : PySem.W.Frag} {F : Hp} : ∀ {ps : List (V × V)} {qs : List (D × D)}, RepPs K F ps qs → intKeys qs = true → ∃ kvs : List (Key × V), ps = kvs.map (fun kv => (kV kv.1, kv.2)) ∧ kvs.length = qs.length
  | _, _, .nil, _ => ⟨[], rfl, rfl⟩
  | _, (d, e) :: qs, .cons h1 h2 r, hk => by
    cases d with
    | int i =>
      obtain ⟨kvs, e1, e2⟩ := keys_of r hk
      rename_i x y ps
      refine ⟨(.inl i, y) :: kvs, ?_, by simp [e2]⟩
      rw [e1, rep_int h1]; rfl
    | _ => cases hk
theorem ev_dct {keys : List (Option Expr)} {vals : List Expr} {h : Mo (List (D × D))} (hp : EpD X C W pos keys vals h) (hall : keys.all (·.isSome) = true) (hl : keys.length = vals.length) (h0 : keys ≠ [])
    (hd : ∀ trs, PPs X pos keys vals trs → PE X e (tDisp trs)) : EvD X C W e (mDct h) := by
  obtain ⟨trs, p, s⟩ := hp
  refine ⟨_, hd _ p, fun F H σ ε Q R q => ?_⟩
  intro p0 hp0
  obtain ⟨n1, n2, n3⟩ := R.newApart hp0
  have R0 := R.loose (.dK []) hp0
  have st0 : Stp σ ε ε F H F (upd H p0 (.dK [])) := (Ste.loose R.fh hp0).stp
  refine s F _ σ ε _ R0 (q.bind.imp (fun qs e q1 ps F1 H1 R1 st1 r1 => ?_) fun x e z => z.imp st0)
  unfold lft at q1
  by_cases hc : intKeys qs = true ∧ qs.length ≤ 15
  · rw [if_pos hc] at q1
    obtain ⟨kvs, e1, e2⟩ := keys_of r1 hc.1
    have h1 : H1 p0 = some (.dK []) := st1.hh p0 _ upd_same n3
    have f1 : F1 p0 = none := (st1.old p0 (by rw [upd_same]; exact fun z => by cases z) n3).trans n1
    refine ⟨h1, kvs, e1, by rw [e2]; exact hc.2, ?_⟩
    have ap := st1.ap p0 n3
    have R2 := (R1.poke (o := .dK (mergeK [] kvs)) f1 n2 ap).freeze (l := p0) (o := .dK (mergeK [] kvs)) upd_same f1 n2 ap
    have st2 := st0.trans st1
    have ne : ∀ b, H b ≠ none → b ≠ p0 := fun b hb z => hb (by rw [z]; exact hp0)
    exact q1 (.ref p0) _ _ R2 ⟨st2.ff.trans (same_upd f1), fun b o hb p => by
        rw [upd_ne (ne b (by rw [hb]; exact fun z => by cases z))]; exact st2.hh b o hb p, fun b hb p => by
        rw [upd_ne (ne b hb)]; exact st2.old b hb p, st2.ap, fun b hb => by
        rw [upd_ne (ne b hb)]; exact st2.tr b hb⟩ (.dct upd_same)
  · rw [if_neg hc] at q1; exact q1.elim
end
end DL
namespace DL
open PySem PySem.Spec L2
def runO (n : Nat) (g : MoS) (ds : List D) : Option (List D) := match g (env0 n ds) with
  | some (.ro es _) => some es
  | _ => none
theorem runO_of {n : Nat} {g : MoS} {ds es : List D} (h : runO n g ds = some es) : ∃ ε, g (env0 n ds) = some (.ro es ε) := by
  unfold runO at h
  split at h
  · cases h; exact ⟨_, by assumption⟩
  · cases h
def runQ (n : Nat) (g : MoS) (ps ds : List D) : Option (Ans × List D) := outQ (g (envQ n ps ds))
def strOf : D → Option (List D)
  | .str x => some (x.cps.toList.map fun c => D.str ⟨#[c]⟩)
  | _ => none
def mTruth (f : Mo D) : Mo Bool := bnd f fun d => lft (gTruth d)
section
variable {X : Cx} {C : Ct} {W : WX} {e : Expr} {f : Mo D}
theorem te_seq (h : EvD X C W e f) (he : ∀ whole, isTrue e X.env whole = (do let v ← whole; standAt e.pos; holding [v] (truthy v)) := by intro _; rfl) : TeD X C W e (mTruth f) := by
  obtain ⟨te, p1, s1⟩ := h
  refine ⟨_, pt_truth p1 he, fun F H σ ε Q R q => ?_⟩
  refine s1 F H σ ε _ R (q.bind.imp (fun d e q1 v F1 H1 R1 st1 r1 => ?_) fun x e z => z)
  unfold lft at q1
  cases hk : gTruth d with
  | none => rw [hk] at q1; exact q1.elim
  | some k =>
    rw [hk] at q1
    refine ⟨k, ?_, q1 F1 H1 R1 st1⟩
    unfold gTruth at hk
    split at hk
    · cases hk
      obtain ⟨a, xs, rfl, h, r⟩ := rep_seqs r1
      exact .inl ⟨xs, Same.seq R1.fh h, by rw [empt r]⟩
    · cases hk
      obtain ⟨a, xs, rfl, h, r⟩ := rep_rdl r1
      exact .inl ⟨xs, Same.seq R1.fh h, by rw [empt r]⟩
    · cases hk
      obtain ⟨a, xs, rfl, h, r⟩ := rep_tup r1
      exact .inr (.inl ⟨xs, seqT R1.fh h, by rw [empt r]⟩)
    · cases hk
end
end DL
namespace DL
open PySem PySem.Spec L2
section
variable {X : Cx} {C : Ct} {W : WX} {a b c e : Expr} {f g h : Mo D} {pos : Pos}
theorem sd_test {K : PySem.W.Frag} {te : TE} (s : SdE K C W te f) : SdT K C W (tTest te) (mB f) := fun F H σ ε Q R q => by
  refine s F H σ ε _ R ((good_mB q).imp (fun d e ⟨k, ek, q1⟩ v F1 H1 R1 st1 r1 => ?_) fun x e z => z)
  subst ek
  exact ⟨k, rep_bl r1, q1 F1 H1 R1 st1⟩
theorem te_cmp {op : CmpOp} {r : R2} {k : D → D → Option D} (ho : OpR X (compareOp op) r) (hm : behindInMarks op b = false) (hv : VOp X.K r k) (ha : EvD X C W a f) (hb : EvD X C W b g) : TeD X C W (.Compare a [op] [b] pos) (mB (mOp k f g)) := by
  obtain ⟨ta, pa, sa⟩ := ha
  obtain ⟨tb, pb, sb⟩ := hb
  exact ⟨_, pt_cmpR ho pa pb hm, sd_test (sd_op hv sa sb)⟩
theorem sd_chain {K : PySem.W.Frag} {r r' : R2} {g1 g2 : D → D → Option D} {ta tb tc : TE} (hv : VOp K r g1) (hv' : VOp K r' g2) (s0 : SdE K C W ta f) (s1 : SdE K C W tb g) (s2 : SdE K C W tc h) : SdE K C W (tChain r r' ta tb tc) (mChain g1 g2 f g h) := fun F H σ ε Q R q => by
  refine s0 F H σ ε _ R (q.bind.imp (fun d e q1 v F1 H1 R1 st1 r1 => ?_) fun x e z => z)
  refine s1 F1 H1 σ e _ R1 (q1.bind.imp (fun d2 e2 q2 v2 F2 H2 R2 st2 r2 => ?_) fun x e z => z.imp st1)
  have q3 := good_mB q2.bind
  unfold lft at q3
  cases hk : g1 d d2 with
  | none => rw [hk] at q3; exact q3.elim
  | some k =>
    rw [hk] at q3
    obtain ⟨kb, ek, q4⟩ := q3
    subst ek
    refine hv F2 H2 v v2 d d2 _ _ R2.fh (r1.mono st2.ff) r2 hk fun w F3 H3 st3 rw' => ⟨kb, rep_bl rw', ?_⟩
    have R3 := R2.step st3
    have stA := (st1.trans st2).trans (st3.stp (σ := σ) (ε := e2))
    cases kb with
    | false =>
      refine iteF ?_
      exact q4 _ F3 H3 R3 stA (.bl false)
    | true =>
      refine iteT ?_
      rw [if_pos rfl] at q4
      refine s2 F3 H3 σ e2 _ R3 (q4.bind.imp (fun d4 e4 q5 v4 F4 H4 R4 st4 r4 => ?_) fun x e z => z.imp stA)
      cases hg : g2 d2 d4 with
      | none => rw [hg] at q5; exact q5.elim
      | some y =>
        rw [hg] at q5
        exact hv' F4 H4 v2 v4 d2 d4 _ _ R4.fh ((r2.mono st3.ff).mono st4.ff) r4 hg fun w5 F5 H5 st5 rw5 => q5 w5 F5 H5 (R4.step st5) ((stA.trans st4).trans st5.stp) rw5
theorem te_chain {op op' : CmpOp} {r r' : R2} {g1 g2 : D → D → Option D} (ho : OpR X (compareOp op) r) (ho' : OpR X (compareOp op') r') (hv : VOp X.K r g1) (hv' : VOp X.K r' g2) (ha : EvD X C W a f) (hb : EvD X C W b g) (hc : EvD X C W c h)
    (hp : ∀ ta tb tc, PE X a ta → PE X b tb → PE X c tc → PT X e (tTest (tChain r r' ta tb tc))) : TeD X C W e (mB (mChain g1 g2 f g h)) := by
  obtain ⟨ta, p0, s0⟩ := ha
  obtain ⟨tb, p1, s1⟩ := hb
  obtain ⟨tc, p2, s2⟩ := hc
  exact ⟨_, hp _ _ _ p0 p1 p2, sd_test (sd_chain hv hv' s0 s1 s2)⟩
end
end DL

set_option Elab.async false
set_option linter.all false
set_option maxRecDepth 100000
/-! floor division by any divisor: what the state's top leaves lets it go -/
namespace DL
open PySem PySem.Spec L2
/-- a fragment that tells that nobody listens, at any state that holds it -/
structure SeerK (K : PySem.W.Frag) : Prop where
  mods : ∃ o es ep, List.lookup sysModules K = some o ∧ o.data = .dict es ep ∧ StrKeys es ∧ nsFind es "_pylong" = none
  c1 : PySem.W.nsIn K cStatics "sys.audit-hooks" = some none
  c2 : PySem.W.nsIn K cStatics "sys.dict" = some none
  main : ∃ bm oc sl d, PySem.W.nsIn K mainGlobals "__builtins__" = some (some (.ref bm)) ∧ List.lookup bm K = some ⟨oc, some builtinsNs, d, sl⟩ ∧ oc = .type "module"
theorem nsIn_none {K : PySem.W.Frag} {h : Heap} {a : Addr} {m : Str → Option Value} {n : Str} (X : K.In h) (G : h.Ns a m) (e : PySem.W.nsIn K a n = some none) : m n = none := by
  obtain ⟨o, es, ep, ho, hd, hs, hf⟩ := G
  unfold PySem.W.nsIn at e
  split at e
  · rename_i cls dict es' ep' slots hl
    have q := X _ _ hl
    rw [ho] at q
    cases q
    cases hd
    split at e
    · cases e
    · rename_i hn
      rw [← hf]
      unfold nsFind findBy
      rw [← Array.find?_toList]
      rw [hn]
      rfl
  · cases e
theorem SeerK.seer {K : PySem.W.Frag} {mg : Str → Option Value} {h : Heap} (S : SeerK K) (X : K.In h) (hg : h.Ns mainGlobals mg) (hb : ∃ mb, h.Ns builtinsNs mb ∧ ∀ (x : Str), x ≠ Str.ofString "__name__" → mb x = bootBuiltins x) (hl : h.NoLimit) : h.NoSeer where
  statics := by
    obtain ⟨mc, n, _⟩ := hl
    exact ⟨mc, n, nsIn_none X n S.c1, nsIn_none X n S.c2⟩
  mods := by
    obtain ⟨o, es, ep, h1, h2, h3, h4⟩ := S.mods
    exact ⟨nsFind es, ⟨o, es, ep, X _ _ h1, h2, h3, fun _ => rfl⟩, h4⟩
  imp := hb
  main := by
    obtain ⟨bm, oc, sl, d, h1, h2, h3⟩ := S.main
    exact ⟨mg, bm, _, hg, PySem.W.mg_of X hg h1, X _ _ h2, h3, rfl⟩
def Seer (X : Cx) : Prop := ∀ pins s σ H, L2.Inv X pins σ H s → PylongRoom (model X.prog X.w) X.A s
theorem base_ns {X : Cx} {pins : List (Addr × Obj)} {σ : List (Option V)} {H : Hp} {s : Shared} (I : L2.Inv X pins σ H s) {a : Addr} {m : Str → Option Value} (h : X.base.Ns a m) : s.heap.Ns a m := by
  obtain ⟨o, es, ep, h1, h2⟩ := h
  exact ⟨o, es, ep, (I.bs _ _ h1).1, h2⟩
theorem seer_cx {P : Program} {w : World} {K : PySem.W.Frag} {mg : Str → Option Value} {base : Heap} {CX : CXT} {N : List Str} {qual : Str} {sc : Scope} {f : Addr} {cd : Value} {A : Around} {outer : List Env} {s : Shared} {H : Hp} {E : XK} {k : Nat}
    (S : SeerK K) (hP : P.given.tree = none) (hr : Room k (A.deeper (PyProof.Rows.envOfC qual sc s.heap.objs.size f cd))) (hk : 32 ≤ k) (g1 : sc.isGenerator = false) (g2 : sc.isCoroutine = false) : Seer (cxOf CX P w K mg base N qual sc f cd A outer s H E) := fun pins s1 σ H1 I => by
  have M := I.ok.mod
  obtain ⟨mb, b1, b2⟩ := M.blt
  have N := SeerK.seer (mg := mg) S I.kIn (base_ns I M.glob) ⟨mb, base_ns I b1, b2⟩ I.nolimit
  refine PylongRoom.of I.nolimit ?_ ?_
  · have := hr.dp
    show (A.deeper _).depth + 100 < recursionLimit
    omega
  · exact SeerAt.of (env := PyProof.Rows.envOfC qual sc s.heap.objs.size f cd) (l := outer) N hP I.ok.frames g1 g2 I.ok.blt I.ok.glob
def CPos (i j : Int) : Prop := 0 < j
theorem op_fdivP {X : Cx} (S : Seer X) : OpR X (binaryOp .FloorDiv) (rI CPos fun i j => .int (i / j)) := by
  intro pins s σ H x y v u Q I rx ry h
  obtain ⟨i, j, rfl, rfl, hj, q⟩ := h
  obtain ⟨t, rfl⟩ := rx
  obtain ⟨t2, rfl⟩ := ry
  have hj : 0 < j := hj
  refine PyProof.Rows.floordiv_int (by omega) ?_ (Or.inr (S pins s σ H I))
  rw [Int.fdiv_eq_ediv_of_nonneg i (by omega)]
  exact ⟨.int _, H, I.kept (fun _ _ h => h), ⟨_, rfl⟩, q⟩
def gDivP := gI (fun _ j => decide (0 < j)) fun i j => .int (i / j)
theorem ev_divP {X : Cx} {C : Ct} {W : WX} {a b : Expr} {f g : Mo D} {pos : Pos} (S : Seer X) (ha : EvD X C W a f) (hb : EvD X C W b g) : EvD X C W (.BinOp a .FloorDiv b pos) (mOp gDivP f g) := ev_op (op_fdivP S) (vop_I (fun i j h => (show CPos i j from of_decide_eq_true (p := 0 < j) h)) fun _ _ _ => .int _) ha hb
/-! ### the end, with a fragment that tells it -/
theorem lk_app {K L : PySem.W.Frag} {a : Addr} {o : Obj} (h : List.lookup a K = some o) : List.lookup a (K ++ L) = some o := by
  induction K with
  | nil => cases h
  | cons p r ih =>
    rw [List.cons_append]
    unfold List.lookup at h ⊢
    split
    · rename_i e; rw [e] at h; exact h
    · rename_i e; rw [e] at h; exact ih h
theorem lk_none {K L : PySem.W.Frag} {a : Addr} (h : List.lookup a K = none) : List.lookup a (K ++ L) = List.lookup a L := by
  induction K with
  | nil => rfl
  | cons p r ih =>
    obtain ⟨k, b⟩ := p
    cases e : a == k with
    | true => simp [List.lookup, e] at h
    | false =>
      have h1 : List.lookup a ((k, b) :: r ++ L) = List.lookup a (r ++ L) := by
        rw [List.cons_append]
        show (match a == k with | true => some b | false => List.lookup a (r ++ L)) = _
        rw [e]
      have h2 : List.lookup a r = none := by
        have : List.lookup a ((k, b) :: r) = (match a == k with | true => some b | false => List.lookup a r) := rfl
        rw [this, e] at h
        exact h
      exact h1.trans (ih h2)
theorem ns_app {K L : PySem.W.Frag} {a : Addr} {n : Str} {r : Option Value} (h : PySem.W.nsIn K a n = some r) : PySem.W.nsIn (K ++ L) a n = some r := by
  unfold PySem.W.nsIn at h ⊢
  cases e : List.lookup a K with
  | none => rw [e] at h; cases h
  | some o => rw [lk_app e]; rw [e] at h; exact h
theorem code_app {K L : PySem.W.Frag} {v : Value} {q : Str} (h : PySem.W.codeIn K v q = true) : PySem.W.codeIn (K ++ L) v q = true := by
  unfold PySem.W.codeIn at h ⊢
  cases v with
  | ref c =>
    cases e : List.lookup c K with
    | none => simp only [e] at h; cases h
    | some o => simp only [lk_app e]; simp only [e] at h; exact h
  | _ => cases h
theorem keep_of {K : PySem.W.Frag} {f : Addr} {oc : Value} {od : Option Addr} {fd : FuncData} {sl : Array (Option Value)} (h : List.lookup f K = some ⟨oc, od, .func fd, sl⟩) : PySem.W.keepIn K (.ref f) = true := by
  unfold PySem.W.keepIn
  simp only [h]
/-- what a part of the state behind the top adds to a fragment -/
structure SeerL (bm : Addr) (K : PySem.W.Frag) : Prop where
  mods : ∃ o es ep, List.lookup sysModules K = some o ∧ o.data = .dict es ep ∧ StrKeys es ∧ nsFind es "_pylong" = none
  bm : ∃ ob, List.lookup bm K = some ob ∧ ob.cls = .type "module" ∧ ob.dict = some builtinsNs
theorem seer_app {K L : PySem.W.Frag} {bm : Addr} (hm : SeerL bm (K ++ L)) (m1 : PySem.W.nsIn K mainGlobals "__builtins__" = some (some (.ref bm)))
    (c1 : PySem.W.nsIn K cStatics "sys.audit-hooks" = some none) (c2 : PySem.W.nsIn K cStatics "sys.dict" = some none) : SeerK (K ++ L) :=
  ⟨hm.mods, ns_app c1, ns_app c2, by obtain ⟨⟨oc, od, d, sl⟩, h1, h2, h3⟩ := hm.bm; cases h3; exact ⟨bm, oc, sl, d, ns_app m1, h1, h2⟩⟩
theorem ns_eq {h : Heap} {a : Addr} {m m' : Str → Option Value} (h1 : h.Ns a m) (h2 : h.Ns a m') (x : Str) : m x = m' x := by
  obtain ⟨o, es, ep, e1, e2, _, e3⟩ := h1
  obtain ⟨o', es', ep', f1, f2, _, f3⟩ := h2
  rw [e1] at f1
  cases f1
  rw [e2] at f2
  cases f2
  rw [← e3, ← f3]
theorem walk_ofS {l : PySem.W.OpenLaw} {n k : Nat} {q : Program} {loose : List Str} {XP : (Str → Option Value) → Heap → Prop} {YP : World → Heap → Prop} {d : DefRec} {K : Params → PySem.W.Frag} {CX : World → CXT} {sp : World → PySem.W.Frag → Sp} {x : Str} {bm : Addr}
    (hn : l.most = some n) (hn2 : n ≤ sizeLine) (hdf : d.params.defaults = []) (hr : Room k callerA) (hq : PyProof.Rows.importsNone q = true) (hY : ∀ (w : World) (h : Heap), YP w h → (K w.params).In h)
    (hB2 : ∀ p, PySem.W.nsIn (K p) mainGlobals "__builtins__" = some (some (.ref bm))) (hK : ∀ p, List.lookup sysModules (K p) = none) (hB : ∀ p, List.lookup bm (K p) = none) (hne : (bm == sysModules) = false)
    (F : ∀ (w : World) (L : PySem.W.Frag) (mg : Str → Option Value) (fa : Addr) (h : Heap), SeerL bm (K w.params ++ L) → (K w.params ++ L).In h → h.Ns mainGlobals mg → mg d.name = some (.ref fa) →
      ∃ fd, (∀ (s : Shared) (u : Value), BindsTo s fd { pos := [u] } [(x, u)]) ∧ ∀ base : Heap, (K w.params ++ L).In base → base.Ns mainGlobals mg → FnOk l.prog w (K w.params ++ L) mg base (CX w) k fa fd [x] (sp w (K w.params ++ L)))
    (hsp : ∀ (w : World) (K : PySem.W.Frag) (H : Hp) (a : Addr) (ns : List Int), ns.length ≤ n → (∀ z : Int, z ∈ ns → Builtin.Int.intBits z ≤ 1048576) → Only H → SqL K H a (List.map V.int ns) → sp w K [V.ref a] H (fun v _ => v = V.bl true) fun _ _ _ => False)
    (hCX : ∀ (w : World) (H : Hp) (s : Shared) (e : Value) (s' : Shared), CX w [] H s (fun _ _ _ => False) e s' → False) : PySem.W.WalkO q loose XP YP l.row.toRowW d [] fun f vs => call f vs := by
  intro w s₀ s₁ mg mb G Y
  have N := G.T.seer hq
  obtain ⟨mm, ⟨o, es, ep, h1, h2, h3, h4⟩, h5⟩ := N.mods
  obtain ⟨mg2, bm2, ob, g1, g2, g3, g4, g5⟩ := N.main
  have eb : bm2 = bm := by
    have e1 := PySem.W.mg_of (hY _ _ Y) G.T.g (hB2 _)
    rw [ns_eq G.T.g g1, g2] at e1
    cases e1
    rfl
  subst eb
  have hY2 : ∀ (w' : World) (h' : Heap), (w' = w ∧ h' = s₁.heap) → (K w'.params ++ [(sysModules, o), (bm2, ob)]).In h' := by
    rintro w' h' ⟨rfl, rfl⟩ a o' ha
    cases e : List.lookup a (K w'.params) with
    | some o2 =>
      rw [lk_app e] at ha
      cases ha
      exact hY _ _ Y a _ e
    | none =>
      rw [lk_none e] at ha
      cases ea : a == sysModules with
      | true =>
        simp [List.lookup, ea] at ha
        rw [eq_of_beq ea, ← ha]
        exact h1
      | false =>
        cases eb : a == bm2 with
        | true =>
          simp [List.lookup, ea, eb] at ha
          rw [eq_of_beq eb, ← ha]
          exact g3
        | false => simp [List.lookup, ea, eb] at ha
  have hL : ∀ p, SeerL bm2 (K p ++ [(sysModules, o), (bm2, ob)]) := fun p => ⟨⟨o, es, ep, by rw [lk_none (hK _)]; simp [List.lookup], h2, h3, (h4 _).trans h5⟩, ⟨ob, by rw [lk_none (hB _)]; simp [List.lookup, hne], g4, g5⟩⟩
  exact walk_ofB (YP := fun w' h' => w' = w ∧ h' = s₁.heap) (XP := XP) (loose := loose) (q := q) (K := fun p => K p ++ [(sysModules, o), (bm2, ob)]) (CX := CX) (sp := fun w' => sp w' (K w'.params ++ [(sysModules, o), (bm2, ob)])) hn hn2 hdf hr hY2 (fun w' mg' fa h KX Gm hmg => F w' _ mg' fa h (hL _) KX Gm hmg) (fun w' H a ns => hsp w' _ H a ns) hCX w s₀ s₁ mg mb G ⟨rfl, rfl⟩
end DL

set_option Elab.async false
set_option linter.all false
set_option maxRecDepth 100000
set_option maxHeartbeats 200000
namespace DL
open PySem PySem.Spec L2
theorem kin_x {prog : Program} {w : World} {A : Around} {E : Value → Shared → Prop} {s : Shared} {K : PySem.W.Frag} {x D : Addr} {ox : Obj} {od : Option Obj} {Q : Option Value → Shared → Prop} (T : ExcC K D)
    (hf : PySem.W.findObj K D od "__class__" = some (.bind (.builtin "getset_descriptor.__get__") (.builtin "object.__class__"))) (X : K.In s.heap) (I : PySem.W.InstAt s.heap x ox D od) (h : Q (some (.ref D)) { s with toks := s.toks + 1 }) :
    wpAny (model prog w) A (getAttr? (.ref x) "__class__") Q E s := by
  obtain ⟨hp, g, d, t, os⟩ := s
  have L0 : PySem.W.Looks (model prog w) hp (typeOf (.ref x)) (.ref D) := I.type
  have L1 : PySem.W.Looks (model prog w) hp _ _ := PySem.W.looks_findIn X T.hg
  have L2' : PySem.W.Looks (model prog w) hp _ _ := PySem.W.looks_findIn X T.hk
  have L3 : PySem.W.Looks (model prog w) hp _ _ := PySem.W.looks_find X I hf
  have sub : PySem.W.Looks (model prog w) hp (isInstance (.ref x) (.type "BaseException")) true := PySem.W.Looks.andThen L0 (PySem.W.looks_subIn X T.hs)
  unfold getAttr?
  refine wpAny_bind (wpAny_mkText ?_)
  unfold getAttrBy?
  refine wpAny_bind (wpAny_attempt ?_)
  unfold getAttrBy
  refine wpAny_holding (wpAny_bind (PySem.W.Looks.at L0 (wpAny_bind (PySem.W.Looks.at L1 ?_))))
  have n1 : (onTheHeap (Value.ref D) && (Value.builtin "BaseException.__getattribute__" == Value.builtin "object.__getattribute__")) = false := by
    rw [show (Value.builtin "BaseException.__getattribute__" == Value.builtin "object.__getattribute__") = false by decide +kernel, Bool.and_false]
  show wpAny _ _ (if (onTheHeap (Value.ref D) && (Value.builtin "BaseException.__getattribute__" == Value.builtin "object.__getattribute__")) = true then _ else _) _ _ _
  rw [n1, if_neg Bool.false_ne_true]
  unfold getAttrByItsOwn
  refine wpAny_bind ?_
  show wpAny _ _ (if onTheHeap (Value.ref D) = true then _ else _) _ _ _
  rw [if_pos (show onTheHeap (Value.ref D) = true from rfl)]
  refine PySem.W.Looks.at L2' (wpAny_bind (wpAny_attempt (wpAny_holding ?_)))
  unfold callGetattribute
  rw [show (false && onTheHeap (Value.builtin "BaseException.__getattribute__")) = false from rfl, if_neg Bool.false_ne_true]
  unfold boundAndCalled
  refine wpAny_bind (wpAny_of_eq (PySem.F.excAttr_ValueError.ga.bind (Value.ref x)) ?_)
  refine wpAny_call ?_
  refine codeAny_call_builtin PySem.F.excAttr_ValueError.ga.plain PySem.F.entry_bexc_ga ?_
  have k1 : builtinKind "BaseException.__getattribute__" = some Manifest.AttrKind.slot := by decide +kernel
  have k2 : splitId "BaseException.__getattribute__" = some ("BaseException", "__getattribute__") := by decide +kernel
  have ar : argsOk "BaseException.__getattribute__" ⟨[Value.ref x, Value.str "__class__" t], []⟩ := PySem.F.args_bexc_ga (Value.ref x) (Value.str "__class__" t)
  refine @PySem.W.check_slot (model prog w) _ _ _ "BaseException.__getattribute__" "BaseException" "__getattribute__" (.ref x) [Value.str "__class__" t] [] _ k1 k2 sub ar ?_
  have k3 : slotArgs "__getattribute__" 1 ⟨[Value.ref x, Value.str "__class__" t], []⟩ = pure (Value.ref x, [Value.str "__class__" t]) := by simp [slotArgs]
  unfold Builtin.«object.__getattribute__»
  refine wpAny_bind (wpAny_of_eq k3 ?_)
  refine wpAny_bind (wpAny_pure ?_)
  refine wpAny_bind (PySem.W.Looks.at L0 ?_)
  refine wpAny_bind (PySem.W.Looks.at L3 ?_)
  change wpAny _ _ (Builtin.ObjectAttr.bindTo (.builtin "getset_descriptor.__get__") (.builtin "object.__class__") (Value.ref x) (Value.ref D)) _ _ _
  unfold Builtin.ObjectAttr.bindTo
  dsimp only
  refine wpAny_bind (wpAny_holding (wpAny_call (PySem.W.class_get X I T.hm ?_)))
  refine wpAny_pure ?_
  dsimp only
  rw [PySem.W.handedOut_of (v := Value.ref D) rfl]
  exact wpAny_pure (wpAny_pure h)
theorem kitx_x {K : PySem.W.Frag} {x D : Addr} {ox : Obj} {od : Option Obj} (T : ExcC K D)
    (hf : PySem.W.findObj K D od "__class__" = some (.bind (.builtin "getset_descriptor.__get__") (.builtin "object.__class__"))) : PySem.W.KitX K (.ref x) (.ref D) fun h => PySem.W.InstAt h x ox D od where
  ty := fun M h X I => I.type
  it := fun M h X I => by
    obtain ⟨cd, hc, _⟩ := PySem.W.any_some T.hd
    unfold PySem.W.clsIn at hc
    split at hc
    · rename_i cls dict cd' slots hl
      intro A Q E s hs q
      unfold isType
      refine wpAny_bind ?_
      unfold loadHead
      exact wpAny_loadPart (hs _ _ (X _ _ hl)) (wpAny_pure q)
    · cases hc
  ne := fun h tp dd its n sl X ht => by
    obtain ⟨cd, hc, _⟩ := PySem.W.any_some T.hd
    unfold PySem.W.clsIn at hc
    split at hc
    · rename_i cls dict cd' slots hl
      have e := X _ _ hl
      cases hq : (Value.ref D == Value.ref tp) with
      | false => rfl
      | true =>
        have := eq_of_beq hq
        cases this
        rw [ht] at e
        cases e
    · cases hc
  ca := fun X I h => kin_x T hf X I h
/-! ### isinstance of the exception that a suite holds -/
def XdOk (H : Hp) (d : Option Addr) : Prop := ∀ dd, d = some dd → ∃ fs, H dd = some (.xd fs)
theorem fo_x {K : PySem.W.Frag} {D : Addr} (T : ExcC K D) (od : Option Obj) : PySem.W.findObj K D od "__class__" = some (.bind (.builtin "getset_descriptor.__get__") (.builtin "object.__class__")) := by
  have hs : (PySem.W.clsIn K D).isSome = true := by
    obtain ⟨cd, hc, _⟩ := PySem.W.any_some T.hd
    rw [hc]; rfl
  cases od with
  | none => exact PySem.W.findObj_dataN hs T.ha T.hn T.ht
  | some o => exact PySem.W.findObj_data hs T.ha T.hn T.ht
section
variable {X : Cx} {a D : Addr} {oe : Obj} {d : Option Addr} {pn : List (Addr × Obj)}
theorem inst_x {pins : List (Addr × Obj)} {s : Shared} {σ : St} {H : Hp} (I : L2.Inv (X.suite a ((a, oe) :: pn)) pins σ H s) (hz : Zc (.ref D) d oe) (hf : ∃ vs, oe.data = .fields vs) (hx : XdOk H d) : ∃ od, PySem.W.InstAt s.heap a oe D od := by
  obtain ⟨hget, _⟩ := I.pin (a, oe) (List.mem_append_left _ List.mem_cons_self)
  obtain ⟨vs, hv⟩ := hf
  have hn : PySem.W.notCls oe = true := by unfold PySem.W.notCls; rw [hv] <;> rfl
  cases d with
  | none => exact ⟨none, hget, hz.1, hn, by rw [hz.2]; trivial⟩
  | some dd =>
    obtain ⟨fs, hd⟩ := hx dd rfl
    have ob : ObjOk _ _ H s.heap dd (.xd fs) := I.hok dd _ hd
    obtain ⟨mA, hns, _⟩ := ob
    obtain ⟨od, ho, _⟩ := lookIn_ns hns
    exact ⟨some od, hget, hz.1, hn, by rw [hz.2]; exact ho⟩
theorem call_isX (T : ExcC X.K D) (hz : Zc (.ref D) d oe) (hf : ∃ vs, oe.data = .fields vs) : CallR (X.suite a ((a, oe) :: pn)) (.builtin "isinstance") (fun xs H Q => ∃ (c : V) (cv : Value) (b : Bool), xs = [.ref a, c] ∧ XdOk H d ∧ (∀ u, RelV c u → u = cv) ∧ PySem.W.kitOne X.K (.ref D) cv = some b ∧ Q (.bl b) H) := by
  intro pins s σ H xs us Q I r ⟨c, cv, b, e, hx, hcv, hk, q⟩
  subst e
  cases r with
  | cons r1 r2 =>
    cases r2 with
    | cons r3 r4 =>
      cases r4
      obtain ⟨od, J⟩ := inst_x I hz hf hx
      have r1' := r1
      cases r1'
      exact PySem.W.kia_one (kitx_x T (fo_x T od)) I.kIn J (by rw [hcv _ r3]; exact hk) (fun z => by cases z) fun tk => ⟨.bl b, H, I.kept (fun _ _ h => h), rfl, q⟩
theorem call_isXT (T : ExcC X.K D) (hz : Zc (.ref D) d oe) (hf : ∃ vs, oe.data = .fields vs) : CallR (X.suite a ((a, oe) :: pn)) (.builtin "isinstance") (fun xs H Q => ∃ (tp : Addr) (cs : List V) (us : List Value) (b : Bool), xs = [.ref a, .ref tp] ∧ XdOk H d ∧ H tp = some (.tup cs) ∧ (∀ vs, Vals cs vs → vs = us) ∧ PySem.W.kitAny X.K (.ref D) us = some b ∧ Q (.bl b) H) := by
  intro pins s σ H xs us Q I r ⟨tp, cs, us2, b, e, hx, ht, hcv, hk, q⟩
  subst e
  cases r with
  | cons r1 r2 =>
    cases r2 with
    | cons r3 r4 =>
      cases r4
      obtain ⟨od, J⟩ := inst_x I hz hf hx
      cases r1
      cases r3
      obtain ⟨its, rv, hi, _⟩ := I.tuple (.inl (.inl ht))
      obtain ⟨o, ho, h1, n, h2⟩ := hi
      obtain ⟨oc, odd, odat, osl⟩ := o
      cases h1
      cases h2
      have e := hcv _ rv
      subst e
      exact PySem.W.kia_tup (kitx_x T (fo_x T od)) I.kIn J ho hk (fun z => by cases z) fun tk => ⟨.bl b, H, I.kept (fun _ _ h => h), rfl, q⟩
end
end DL

set_option Elab.async false
set_option linter.all false
set_option maxRecDepth 100000
/-! try: .. except X as e: .. -/
namespace DL
open PySem PySem.Spec L2
def canS (K : PySem.W.Frag) (C : Ct) (W : WX) (g : MoS) : TS := fun D σ H => ∃ F ε, Rep K C F H σ ε ∧ GoodS K C W F D (g ε)
theorem SsD.can {X : Cx} {C : Ct} {W : WX} {b : List Stmt} {g : MoS} (h : SsD X C W b g) : PSs X b (canS X.K C W g) := by
  obtain ⟨ts, p, s⟩ := h
  exact ⟨fun pins st σ H D I ⟨F, ε, R, q⟩ => p.run pins st σ H D I (s F H σ ε D R q)⟩
/-- what is known of an exception in its suite -/
structure XcOk (K : PySem.W.Frag) (C : Ct) (x : Xn) (cls : Value) (d : Option Addr) : Prop where
  cls : ∃ c, cls = .ref c ∧ PySem.W.nsIn K mainGlobals (Str.ofString x.cls) = some (some (.ref c))
  fs : (d = none ∧ x.fs = []) ∨ ∃ dd vs, d = some dd ∧ C.H0 dd = some (.xd vs) ∧ RepF K C.F0 vs x.fs
def Ent.cl : Ent → Ent
  | .xc => .un
  | .od _ => .un
  | .ib _ => .un
  | e => e
def noX (ε : List Ent) : List Ent := ε.map Ent.cl
theorem cl_mut {e : Ent} (h : e.cl.mut = true) : e.mut = true := by
  cases e <;> first | exact h | cases h
theorem noX_get {ε : List Ent} {j : Nat} {e : Ent} (h : (noX ε)[j]? = some e) : ∃ e0, ε[j]? = some e0 ∧ e0.cl = e := by
  unfold noX at h
  rw [List.getElem?_map] at h
  cases q : ε[j]? with
  | none => rw [q] at h; cases h
  | some e0 => rw [q] at h; cases h; exact ⟨e0, rfl, rfl⟩
section
variable {K : PySem.W.Frag} {C : Ct} {F H : Hp} {σ : St} {ε : List Ent}
theorem Rep.toSuite (R : Rep K C F H σ ε) (i : Nat) (a : Addr) {H0' : Hp} (h1 : ∀ b o, H0' b = some o → (∀ j, C.A j ≠ some b) → H b = some o) (h2 : ∀ b, H0' b ≠ none → H b ≠ none) (h3 : ∀ l vs, H l = some (.lst vs) → C.H0 l = none → H0' l = none) :
    Rep K ⟨F, H0', C.A, some a⟩ F H (σ.set i (some (.ref a))) ((noX ε).set i .xc) where
  fh := R.fh
  ff := Same.refl F
  old := fun _ _ => rfl
  keep := h1
  tr := h2
  len := by rw [List.length_set, List.length_set]; unfold noX; rw [List.length_map]; exact R.len
  ent := fun j e he => by
    by_cases hj : i = j
    · subst hj
      have hl : i < (noX ε).length := by
        have := (List.getElem?_eq_some_iff.mp he).1
        rwa [List.length_set] at this
      rw [List.getElem?_set_self hl] at he
      cases he
      exact ⟨a, rfl, by rw [List.getElem?_set_self (by rw [R.len]; unfold noX at hl; rwa [List.length_map] at hl)]⟩
    · rw [List.getElem?_set_ne hj] at he
      rw [List.getElem?_set_ne hj]
      obtain ⟨e0, h0, rfl⟩ := noX_get he
      have q := R.ent j e0 h0
      cases e0 with
      | un => trivial
      | xc => trivial
      | dat d => exact q
      | own ds =>
        obtain ⟨l, vs, q1, q2, q3, q4, q5⟩ := q
        exact ⟨l, vs, q1, q2, q3, q4, h3 l vs q2 q5⟩
      | io ds => exact q
      | od ob => trivial
      | ib ob => trivial
  dis := fun p q l e e' g1 g2 g3 g4 g5 g6 => by
    by_cases hp : i = p
    · subst hp
      have hl : i < (noX ε).length := by
        have := (List.getElem?_eq_some_iff.mp g3).1
        rwa [List.length_set] at this
      rw [List.getElem?_set_self hl] at g3
      cases g3; cases g5
    · by_cases hq : i = q
      · subst hq
        have hl : i < (noX ε).length := by
          have := (List.getElem?_eq_some_iff.mp g4).1
          rwa [List.length_set] at this
        rw [List.getElem?_set_self hl] at g4
        cases g4; cases g6
      · rw [List.getElem?_set_ne hp] at g1 g3
        rw [List.getElem?_set_ne hq] at g2 g4
        obtain ⟨e0, k0, rfl⟩ := noX_get g3
        obtain ⟨e1, k1, rfl⟩ := noX_get g4
        exact R.dis p q l e0 e1 g1 g2 k0 k1 (cl_mut g5) (cl_mut g6)
theorem Rep.ofSuite {a : Option Addr} {F0 H0' : Hp} (R : Rep K ⟨F0, H0', C.A, a⟩ F H σ ε) (h1 : Same C.F0 F0) (h2 : ∀ b, C.H0 b ≠ none → F0 b = C.F0 b) (h3 : ∀ b o, C.H0 b = some o → (∀ j, C.A j ≠ some b) → H0' b = some o) (h4 : ∀ b, C.H0 b ≠ none → H0' b ≠ none) : Rep K C F H σ (noX ε) where
  fh := R.fh
  ff := h1.trans R.ff
  old := fun b h => (R.old b (h4 b h)).trans (h2 b h)
  keep := fun b o h n => R.keep b o (h3 b o h n) n
  tr := fun b h => R.tr b (h4 b h)
  len := by unfold noX; rw [List.length_map]; exact R.len
  ent := fun j e he => by
    obtain ⟨e0, h0, rfl⟩ := noX_get he
    have q := R.ent j e0 h0
    cases e0 with
    | un => trivial
    | xc => trivial
    | dat d => exact q
    | own ds =>
      obtain ⟨l, vs, q1, q2, q3, q4, q5⟩ := q
      refine ⟨l, vs, q1, q2, q3, q4, ?_⟩
      cases e : C.H0 l with
      | none => rfl
      | some o => exact absurd q5 (h4 l (by rw [e]; exact fun z => by cases z))
    | io ds => exact q
    | od ob => trivial
    | ib ob => trivial
  dis := fun p q l e e' g1 g2 g3 g4 g5 g6 => by
    obtain ⟨e0, k0, rfl⟩ := noX_get g3
    obtain ⟨e1, k1, rfl⟩ := noX_get g4
    exact R.dis p q l e0 e1 g1 g2 k0 k1 (cl_mut g5) (cl_mut g6)
/-- a name is gone -/
theorem Rep.gone (R : Rep K C F H σ ε) (i : Nat) : Rep K C F H (σ.set i none) (ε.set i .un) where
  fh := R.fh
  ff := R.ff
  old := R.old
  keep := R.keep
  tr := R.tr
  len := by rw [List.length_set, List.length_set]; exact R.len
  ent := fun j e he => by
    by_cases hj : i = j
    · subst hj
      have hl : i < ε.length := by
        have := (List.getElem?_eq_some_iff.mp he).1
        rwa [List.length_set] at this
      rw [List.getElem?_set_self hl] at he
      cases he
      trivial
    · rw [List.getElem?_set_ne hj] at he
      rw [List.getElem?_set_ne hj]
      exact R.ent j e he
  dis := fun p q l e e' g1 g2 g3 g4 g5 g6 => by
    by_cases hp : i = p
    · subst hp
      have hl : i < ε.length := by
        have := (List.getElem?_eq_some_iff.mp g3).1
        rwa [List.length_set] at this
      rw [List.getElem?_set_self hl] at g3
      cases g3; cases g5
    · by_cases hq : i = q
      · subst hq
        have hl : i < ε.length := by
          have := (List.getElem?_eq_some_iff.mp g4).1
          rwa [List.length_set] at this
        rw [List.getElem?_set_self hl] at g4
        cases g4; cases g6
      · rw [List.getElem?_set_ne hp] at g1 g3
        rw [List.getElem?_set_ne hq] at g2 g4
        exact R.dis p q l e e' g1 g2 g3 g4 g5 g6
end
def after (i : Nat) : Option ResS → Option ResS
  | some (.nx ε) => some (.nx ((noX ε).set i .un))
  | some (.bk ε) => some (.bk ((noX ε).set i .un))
  | some (.ct ε) => some (.ct ((noX ε).set i .un))
  | some (.rt d ε) => some (.rt d (noX ε))
  | some (.ro ds ε) => some (.ro ds (noX ε))
  | _ => none
def mTry (i : Nat) (tbl : List (String × Bool)) (g : MoS) (su : Xn → MoS) : MoS := fun ε => match g ε with
  | some (.ex x ε') => (match tbl.lookup x.cls with
    | some true => after i (su x ((noX ε').set i .xc))
    | some false => some (.ex x ε')
    | none => none)
  | r => r
/-- from the suite back -/
theorem after_good {K : PySem.W.Frag} {C : Ct} {W : WX} {F F1 H0' : Hp} {D : Ends} {i : Nat} {a : Option Addr} {r : Option ResS} (h1 : Same C.F0 F1) (h2 : ∀ b, C.H0 b ≠ none → F1 b = C.F0 b) (h3 : ∀ b o, C.H0 b = some o → (∀ j, C.A j ≠ some b) → H0' b = some o) (h4 : ∀ b, C.H0 b ≠ none → H0' b ≠ none) (sF : Same F F1)
    (q : GoodS K C W F D (after i r)) : GoodS K ⟨F1, H0', C.A, a⟩ W0 F1 { nx := fun σ' H' => D.nx (List.set σ' i none) H', rt := D.rt, bk := fun σ' H' => D.bk (List.set σ' i none) H', ct := fun σ' H' => D.ct (List.set σ' i none) H' } r := by
  cases r with
  | none => exact q
  | some r =>
    cases r with
    | nx e => exact fun F' H' σ' R s => q F' H' _ ((R.ofSuite h1 h2 h3 h4).gone i) (sF.trans s)
    | bk e => exact fun F' H' σ' R s => q F' H' _ ((R.ofSuite h1 h2 h3 h4).gone i) (sF.trans s)
    | ct e => exact fun F' H' σ' R s => q F' H' _ ((R.ofSuite h1 h2 h3 h4).gone i) (sF.trans s)
    | rt d e => exact fun v F' H' σ' R s r => q v F' H' σ' (R.ofSuite h1 h2 h3 h4) (sF.trans s) r
    | ro ds e => exact fun l vs F' H' σ' R s k1 k2 k3 k4 => q l vs F' H' σ' (R.ofSuite h1 h2 h3 h4) (sF.trans s) k1 k2 k3 (by
        cases e : C.H0 l with
        | none => rfl
        | some o => exact absurd k4 (h4 l (by rw [e]; exact fun z => by cases z)))
    | ex x e => exact q.elim
section
variable {X : Cx} {C : Ct} {W : WX} {x n : Str} {c : Value} {i : Nat} {body suite : List Stmt} {b₀ : Stmt} {np pos pos' : Pos} {g : MoS} {su : Xn → MoS} {tbl : List (String × Bool)}
theorem st_try (hA : C.A = noA) (hs : X.stack = X.env :: X.outer) (hf : X.env.frame = some X.env.locals) (hN : X.N.Nodup) (hi : X.N[i]? = some n) (hln : X.env.kindOf n = some .local) (hc : Names X x c) (tk : Takes X W)
    (hT : ∀ s b, tbl.lookup s = some b → ∀ a, PySem.W.nsIn X.K mainGlobals (Str.ofString s) = some (some (.ref a)) → PySem.W.exmOne X.K (.ref a) c = some b)
    (hb : ∀ (W : WX) (pn : List (Addr × Obj)) (xe : Value → Shared → Prop), Takes (X.tr pn xe) W → SsD (X.tr pn xe) C W body g)
    (hsu : ∀ (a : Addr) (oe : Obj) (cls : Value) (d : Option Addr) (pn : List (Addr × Obj)) (C' : Ct) (x : Xn), C'.xa = some a → C'.A = noA → XcOk X.K C' x cls d → Zc cls d oe → (∃ vs, oe.data = .fields vs) → SsD (X.suite a ((a, oe) :: pn)) C' W0 (b₀ :: suite) (su x)) :
    StD X C W (.Try body [.ExceptHandler (some (.Name x np)) (some n) (b₀ :: suite) pos'] [] [] pos) (mTry i tbl g su) := by
  refine ⟨_, ps_try_as (tb := fun W' => canS X.K C W' g) (ts := fun a cls d D σ H => ∃ (C' : Ct) (F : Hp) (ε : List Ent) (x : Xn), C'.xa = some a ∧ C'.A = noA ∧ XcOk X.K C' x cls d ∧ Rep X.K C' F H σ ε ∧ GoodS X.K C' W0 F D (su x ε)) (Wout := W) hs hf hN hi hln hc tk (fun W' pn xe tk' _ => (hb W' pn xe tk').can) (fun a oe cls d pn hz hfv => ⟨fun pins st σ H D I h => ?_⟩), fun F H σ ε D R q => ?_⟩
  · obtain ⟨C', F, ε, x, h1, h2, h3, R, q⟩ := h
    exact ((hsu a oe cls d pn C' x h1 h2 h3 hz hfv).can).run pins st σ H D I ⟨F, ε, R, q⟩
  · refine ⟨F, ε, R, ?_⟩
    unfold mTry at q
    cases hg : g ε with
    | none => rw [hg] at q; exact q
    | some r =>
      rw [hg] at q
      cases r with
      | nx e => exact q
      | rt d e => exact q
      | ro d e => exact q
      | bk e => exact q
      | ct e => exact q
      | ex x e =>
        intro c1 od F1 H1 σ1 R1 s1 rx
        dsimp only at q
        obtain ⟨a1, rfl, hn⟩ := rx.cls
        cases ht : tbl.lookup x.cls with
        | none => rw [ht] at q; exact q.elim
        | some b =>
          rw [ht] at q
          refine ⟨b, hT _ _ ht a1 hn, fun hb => ?_, fun hb => ?_⟩
          · subst hb
            intro a ha
            dsimp only at q
            rcases rx.fs with ⟨e1, e2⟩ | ⟨dd, vs, e1, e2, e3⟩
            · refine ⟨⟨F1, C.H0, C.A, some a⟩, F1, _, x, rfl, hA, ⟨⟨a1, rfl, hn⟩, .inl ⟨e1, e2⟩⟩, R1.toSuite i a R1.keep R1.tr (fun l vs _ h => h), ?_⟩
              exact after_good R1.ff R1.old (fun b o h _ => h) (fun b h => h) s1 q
            · have h0 : ∀ b o, C.H0 b = some o → (upd C.H0 dd (.xd vs)) b = some o := fun b o h => by
                by_cases hb : b = dd
                · subst hb
                  have := R1.keep b o h (fun j => by rw [hA]; exact fun z => by cases z)
                  rw [e2] at this
                  cases this
                  exact upd_same
                · rw [upd_ne hb]; exact h
              have h4 : ∀ b, C.H0 b ≠ none → (upd C.H0 dd (.xd vs)) b ≠ none := fun b h => by
                cases e : C.H0 b with
                | none => exact absurd e h
                | some o => rw [h0 b o e]; exact fun z => by cases z
              refine ⟨⟨F1, upd C.H0 dd (.xd vs), C.A, some a⟩, F1, _, x, rfl, hA, ⟨⟨a1, rfl, hn⟩, .inr ⟨dd, vs, e1, upd_same, e3⟩⟩, R1.toSuite i a (fun b o h n => ?_) (fun b h => ?_) (fun l us k1 k2 => ?_), ?_⟩
              · by_cases hb : b = dd
                · subst hb; rw [upd_same] at h; cases h; exact e2
                · rw [upd_ne hb] at h; exact R1.keep b o h n
              · by_cases hb : b = dd
                · subst hb; rw [e2]; exact fun z => by cases z
                · rw [upd_ne hb] at h; exact R1.tr b h
              · rw [upd_ne (show l ≠ dd from fun z => by rw [z, e2] at k1; cases k1)]; exact k2
              · exact after_good R1.ff R1.old (fun b o h _ => h0 b o h) h4 s1 q
          · subst hb
            exact q (.ref a1) od F1 H1 σ1 R1 s1 rx
end
end DL

set_option Elab.async false
set_option linter.all false
set_option maxRecDepth 100000
/-! what a suite asks of its exception; raise -/
namespace DL
open PySem PySem.Spec L2
theorem RepF.get {K : PySem.W.Frag} {F : Hp} {f : Str} {d : D} : ∀ {vs : List (Str × V)} {ds : List (Str × D)}, RepF K F vs ds → ds.lookup f = some d → ∃ v, vs.lookup f = some v ∧ RepD K F v d
  | [], [], _, h => by cases h
  | (x, v) :: r, (y, e) :: s, h, q => by
    obtain ⟨rfl, h1, h2⟩ := h
    rw [List.lookup_cons] at q ⊢
    cases hb : f == x with
    | true => rw [hb] at q; cases q; exact ⟨v, rfl, h1⟩
    | false => rw [hb] at q; exact RepF.get h2 q
  | [], _ :: _, h, _ => h.elim
  | _ :: _, [], h, _ => h.elim
theorem RepF.mono {K : PySem.W.Frag} {F F' : Hp} (s : Same F F') : ∀ {vs : List (Str × V)} {ds : List (Str × D)}, RepF K F vs ds → RepF K F' vs ds
  | [], [], _ => trivial
  | (_, _) :: _, (_, _) :: _, h => ⟨h.1, h.2.1.mono s, RepF.mono s h.2.2⟩
  | [], _ :: _, h => h.elim
  | _ :: _, [], h => h.elim
theorem XcOk.xd {K : PySem.W.Frag} {C : Ct} {x : Xn} {cls : Value} {d : Option Addr} (h : XcOk K C x cls d) (hA : C.A = noA) {F H : Hp} {σ : St} {ε : List Ent} (R : Rep K C F H σ ε) : XdOk H d := fun dd hd => by
  rcases h.fs with ⟨e, _⟩ | ⟨d2, vs, e, e2, _⟩
  · rw [e] at hd; cases hd
  · rw [e] at hd; cases hd
    exact ⟨vs, R.keep _ _ e2 (fun j => by rw [hA]; exact fun z => by cases z)⟩
section
variable {X : Cx} {a : Addr} {oe : Obj} {cls : Value} {d : Option Addr} {pn : List (Addr × Obj)} {C : Ct} {W : WX} {x : Xn} {e e1 e2 : Expr} {pos : Pos}
def mIsX (i : Nat) (b : Bool) : Mo D := fun ε => match ε[i]? with
  | some .xc => some (.ok (.bl b) ε)
  | _ => none
theorem mIsX_good {i : Nat} {b : Bool} {ε : List Ent} {p : D → List Ent → Prop} {q : Xn → List Ent → Prop} (h : Good (mIsX i b ε) p q) : ε[i]? = some .xc ∧ p (.bl b) ε := by
  unfold mIsX at h
  split at h
  · rename_i he; exact ⟨he, h⟩
  · exact h.elim
theorem ev_isX {i : Nat} {b : Bool} {v : V} {cv : Value} (hxa : C.xa = some a) (hA : C.A = noA) (hX : XcOk X.K C x cls d) (hz : Zc cls d oe) (hf : ∃ vs, oe.data = .fields vs) (T : ∀ c, cls = .ref c → ExcC X.K c ∧ PySem.W.kitOne X.K (.ref c) cv = some b) (hcv : ∀ u, RelV v u → u = cv)
    (pp : PA (X.suite a ((a, oe) :: pn)) [e1, e2] (tCons (tVar i) (tCons (tC v) tNil))) (hp : ∀ r ta, CallR (X.suite a ((a, oe) :: pn)) (.builtin "isinstance") r → PA (X.suite a ((a, oe) :: pn)) [e1, e2] ta → PE (X.suite a ((a, oe) :: pn)) e (tCB r ta)) : EvD (X.suite a ((a, oe) :: pn)) C W e (mIsX i b) := by
  obtain ⟨c, hc, _⟩ := hX.cls
  obtain ⟨t1, t2⟩ := T c hc
  refine ⟨_, hp _ _ (call_isX t1 (hc ▸ hz) hf) pp, fun F H σ ε Q R q => ?_⟩
  obtain ⟨he, q⟩ := mIsX_good q
  obtain ⟨a', h1, h2⟩ := R.ent i _ he
  rw [hxa] at h1
  cases h1
  exact ⟨.ref a, h2, v, cv, b, rfl, hX.xd hA R, hcv, t2, q (.bl b) F H R Stp.refl (.bl b)⟩
theorem ev_isXT {i : Nat} {b : Bool} {cs : List V} {us : List Value} {tcs : TA} (hxa : C.xa = some a) (hA : C.A = noA) (hX : XcOk X.K C x cls d) (hz : Zc cls d oe) (hf : ∃ vs, oe.data = .fields vs) (T : ∀ c, cls = .ref c → ExcC X.K c ∧ PySem.W.kitAny X.K (.ref c) us = some b) (hcv : ∀ vs, Vals cs vs → vs = us) (hl : cs.length ≤ sizeLine)
    (pp : PA (X.suite a ((a, oe) :: pn)) [e1, e2] (tCons (tVar i) (tCons (tTup tcs) tNil))) (ht : ∀ σ H Q, Q cs H → tcs σ H Q) (hp : ∀ r ta, CallR (X.suite a ((a, oe) :: pn)) (.builtin "isinstance") r → PA (X.suite a ((a, oe) :: pn)) [e1, e2] ta → PE (X.suite a ((a, oe) :: pn)) e (tCB r ta)) : EvD (X.suite a ((a, oe) :: pn)) C W e (mIsX i b) := by
  obtain ⟨c, hc, _⟩ := hX.cls
  obtain ⟨t1, t2⟩ := T c hc
  refine ⟨_, hp _ _ (call_isXT t1 (hc ▸ hz) hf) pp, fun F H σ ε Q R q => ?_⟩
  obtain ⟨he, q⟩ := mIsX_good q
  obtain ⟨a', h1, h2⟩ := R.ent i _ he
  rw [hxa] at h1
  cases h1
  refine ⟨.ref a, h2, ht _ _ _ ⟨hl, fun p hp => ?_⟩⟩
  exact ⟨p, cs, us, b, rfl, hX.xd hA (R.loose _ hp), upd_same, hcv, t2, q (.bl b) F _ (R.loose _ hp) (Ste.loose R.fh hp).stp (.bl b)⟩
def mXf (i : Nat) (x : Xn) (f : Str) : Mo D := fun ε => match ε[i]? with
  | some .xc => (match x.fs.lookup f with
    | some d => some (.ok d ε)
    | none => none)
  | _ => none
theorem ev_xf {i : Nat} {f : Str} (hxa : C.xa = some a) (hA : C.A = noA) (hX : XcOk X.K C x cls d) (T : ∀ c, cls = .ref c → ∀ te, PE (X.suite a ((a, oe) :: pn)) e1 te → PE (X.suite a ((a, oe) :: pn)) e (tXf a cls d c f te)) (p1 : PE (X.suite a ((a, oe) :: pn)) e1 (tVar i)) : EvD (X.suite a ((a, oe) :: pn)) C W e (mXf i x f) := by
  obtain ⟨c, hc, _⟩ := hX.cls
  refine ⟨_, T c hc _ p1, fun F H σ ε Q R q => ?_⟩
  unfold mXf at q
  split at q
  · rename_i he
    cases hl : x.fs.lookup f with
    | none => rw [hl] at q; exact q.elim
    | some dv =>
      rw [hl] at q
      obtain ⟨a', h1, h2⟩ := R.ent i _ he
      rw [hxa] at h1
      cases h1
      rcases hX.fs with ⟨_, e2⟩ | ⟨dd, vs, e1, e2, e3⟩
      · rw [e2] at hl; cases hl
      · obtain ⟨v, k1, k2⟩ := (e3.mono R.ff).get hl
        exact ⟨.ref a, h2, rfl, hc, dd, vs, v, e1, R.keep _ _ e2 (fun j => by rw [hA]; exact fun z => by cases z), k1, q v F H R Stp.refl k2⟩
  · exact q.elim
end
/-! ### raise X(e): the class's __init__ keeps e in a field -/
def spInit (C : Addr) (f : Str) : Sp := fun vs H Q _ => ∃ (a : Addr) (v : V), vs = [.ref a, v] ∧ H a = some (exo a C none) ∧ ∀ dx, H dx = none → dx ≠ a → Q .non (upd (upd H dx (exd dx [(f, v)])) a (exo a C (some dx)))
theorem ok_init {P : Program} {w : World} {K : PySem.W.Frag} {mg : Str → Option Value} {base : Heap} {x qual : Str} {st : Stmt} {fI C : Addr} {fd : FuncData} {N ps : List Str} {f : Str} (F : Fun K x qual st fI fd) (S : FnScope N ps (defScope st)) (hn : N.length = 2) (hps : ps.length = 2) (hO : OexC K C) (hno : PySem.W.findIn K (.ref C) f = some none)
    (hb : ∀ (cdv : Value) (A : Around) (outer : List Env) (s : Shared) (H : Hp) (E : XK), PSs (cxOf CX0 P w K mg base N qual (defScope st) fI cdv A outer s H E).nox (defBody st) (tOst K f (tVar 0) (tVar 1))) : FnOk P w K mg base CX0 1 fI fd ps (spInit C f) := by
  refine F.ok (k := 0) S (fun vs H Q E h => ?_) (fun cdv A outer s H vs Q E hr h => ⟨_, hb cdv A outer s H E, ?_⟩)
  · obtain ⟨a, v, rfl, _⟩ := h
    exact hps.symm
  · obtain ⟨a, v, rfl, h1, h2⟩ := h
    refine ⟨v, ?_, .ref a, ?_, a, C, rfl, hO, hno, .inl ⟨h1, fun dx k1 k2 => h2 dx k1 k2⟩⟩
    · unfold L2.start; simp
    · unfold L2.start; simp
def mRaise1 (cls : String) (f : Str) (g : Mo (List D)) : MoS := mThen g fun ds ε => match ds with
  | [d] => some (.ex ⟨cls, [(f, d)]⟩ ε)
  | _ => none
theorem st_raise1 {X : Cx} {Ct' : Ct} {W : WX} {cls : String} {f : Str} {C fI : Addr} {fd : FuncData} {ps : List Str} {x : Str} {p pos pos2 : Pos} {e : Expr} {g : Mo (List D)} (hc : X.calm = true) (tk : Takes X W) (T : OexC X.K C) (hi : PySem.W.findIn X.K (.ref C) "__init__" = some (some (.ref fI))) (ht : PySem.W.typeIn X.K (.ref fI) = some (.type "function"))
    (F1 : FnOk X.prog X.w X.K X.mg X.base CX0 1 fI fd ps (spInit C f)) (hr : Room 2 X.A) (hb : Binds X.K fd ps []) (hg : Gl X x) (hm : X.mg x = some (.ref C)) (hn : PySem.W.nsIn X.K mainGlobals (Str.ofString cls) = some (some (.ref C))) (ha : EaD X Ct' W [e] g)
    (hdb : (x == Str.ofString "__debug__") = false := by decide) (he : starEach (e :: []) X.env = (false, eval e X.env) :: starEach [] X.env := by rfl) (hpl : (backTo pos (starEach [] X.env)).any (·.1) = false := by rfl) :
    StD X Ct' W (.Raise (some (.Call (.Name x p) [e] [] pos)) none pos2) (mRaise1 cls f g) := by
  obtain ⟨ta, p1, s1⟩ := ha
  refine ⟨_, ps_raise hc tk (pmk_oex (ds := []) (dvs := []) T hi ht F1 hr hb .nil pass0 hg hm p1 hdb he hpl), fun F H σ ε D R q => ?_⟩
  refine s1 F H σ ε _ R ((then_good q).imp (fun ds e1 q1 vs F1 H1 R1 st1 r1 => ?_) fun x e z => z)
  cases r1 with
  | nil => exact q1.elim
  | cons rv rr =>
    cases rr with
    | cons _ _ => exact q1.elim
    | nil =>
      rename_i v d
      refine ⟨by simp, fun a ha => ?_⟩
      refine ⟨a, v, rfl, upd_same, fun dx hdx hne => ⟨rfl, dx, [(f, v)], upd_same, by rw [upd_ne hne, upd_same], ?_, ?_⟩⟩
      · rw [upd_ne hne] at hdx; exact hdx
      · have hdx' : H1 dx = none := by rw [upd_ne hne] at hdx; exact hdx
        have eH : upd (L2.del (upd (upd (upd H1 a (exo a C none)) dx (exd dx [(f, v)])) a (exo a C (some dx))) a) dx (.xd [(f, v)]) = upd H1 dx (.xd [(f, v)]) := by
          funext b
          by_cases h1 : b = dx
          · subst h1; rw [upd_same, upd_same]
          · rw [upd_ne h1, upd_ne h1]
            unfold L2.del
            by_cases h2 : b = a
            · subst h2; rw [if_pos rfl]; exact ha.symm
            · rw [if_neg h2, upd_ne h2, upd_ne h1, upd_ne h2]
        rw [eH]
        exact q1 (.ref C) (some dx) F1 _ σ (R1.loose _ hdx') st1.ff ⟨⟨C, rfl, hn⟩, .inr ⟨dx, [(f, v)], rfl, upd_same, rfl, rv, trivial⟩⟩
/-- a statement that is never reached -/
theorem st_never {X : Cx} {C : Ct} {W : WX} {s : Stmt} : StD X C W s (fun _ => none) := ⟨_, ps_never, fun F H σ ε D R q => q.elim⟩
end DL

set_option Elab.async false
set_option linter.all false
set_option maxRecDepth 100000
/-! by tables: which class answers what -/
namespace DL
open PySem PySem.Spec L2
/-- what holds of the class that a name of the table names -/
def TblOk (K : PySem.W.Frag) (tbl : List (String × Bool)) (p : Addr → Bool → Prop) : Prop := ∀ s b, tbl.lookup s = some b → ∀ a, PySem.W.nsIn K mainGlobals (Str.ofString s) = some (some (.ref a)) → p a b
theorem tbl_nil {K : PySem.W.Frag} {p : Addr → Bool → Prop} : TblOk K [] p := fun _ _ h => by cases h
theorem tbl_cons {K : PySem.W.Frag} {p : Addr → Bool → Prop} {s : String} {b : Bool} {tbl : List (String × Bool)} {C : Addr} (hn : PySem.W.nsIn K mainGlobals (Str.ofString s) = some (some (.ref C))) (h : p C b) (r : TblOk K tbl p) : TblOk K ((s, b) :: tbl) p := fun s' b' hl a ha => by
  rw [List.lookup_cons] at hl
  cases hs : s' == s with
  | true =>
    rw [hs] at hl
    cases hl
    rw [eq_of_beq hs, hn] at ha
    cases ha
    exact h
  | false =>
    rw [hs] at hl
    exact r s' b' hl a ha
theorem ev_never {X : Cx} {C : Ct} {W : WX} {e : Expr} : EvD X C W e (fun _ => none) := ⟨fun _ _ _ => False, ⟨fun _ _ _ _ _ _ h => h.elim⟩, fun F H σ ε Q R q => q.elim⟩
def mIsT (i : Nat) (tbl : List (String × Bool)) (x : Xn) : Mo D := match tbl.lookup x.cls with
  | some b => mIsX i b
  | none => fun _ => none
def mXfT (i : Nat) (tbl : List (String × Bool)) (f : Str) (x : Xn) : Mo D := match tbl.lookup x.cls with
  | some _ => mXf i x f
  | none => fun _ => none
section
variable {X : Cx} {a : Addr} {oe : Obj} {cls : Value} {d : Option Addr} {pn : List (Addr × Obj)} {C : Ct} {W : WX} {x : Xn} {e e1 e2 : Expr} {pos : Pos} {tbl : List (String × Bool)}
theorem ev_isT1 {i : Nat} {v : V} {cv : Value} (hxa : C.xa = some a) (hA : C.A = noA) (hX : XcOk X.K C x cls d) (hz : Zc cls d oe) (hf : ∃ vs, oe.data = .fields vs) (T : TblOk X.K tbl fun c b => ExcC X.K c ∧ PySem.W.kitOne X.K (.ref c) cv = some b) (hcv : ∀ u, RelV v u → u = cv)
    (pp : PA (X.suite a ((a, oe) :: pn)) [e1, e2] (tCons (tVar i) (tCons (tC v) tNil))) (hp : ∀ r ta, CallR (X.suite a ((a, oe) :: pn)) (.builtin "isinstance") r → PA (X.suite a ((a, oe) :: pn)) [e1, e2] ta → PE (X.suite a ((a, oe) :: pn)) e (tCB r ta)) : EvD (X.suite a ((a, oe) :: pn)) C W e (mIsT i tbl x) := by
  unfold mIsT
  cases hl : tbl.lookup x.cls with
  | none => exact ev_never
  | some b =>
    refine ev_isX hxa hA hX hz hf (fun c hc => ?_) hcv pp hp
    obtain ⟨c2, h1, h2⟩ := hX.cls
    rw [hc] at h1
    cases h1
    exact T _ _ hl _ h2
theorem ev_isTT {i : Nat} {cs : List V} {us : List Value} {tcs : TA} (hxa : C.xa = some a) (hA : C.A = noA) (hX : XcOk X.K C x cls d) (hz : Zc cls d oe) (hf : ∃ vs, oe.data = .fields vs) (T : TblOk X.K tbl fun c b => ExcC X.K c ∧ PySem.W.kitAny X.K (.ref c) us = some b) (hcv : ∀ vs, Vals cs vs → vs = us) (hl : cs.length ≤ sizeLine)
    (pp : PA (X.suite a ((a, oe) :: pn)) [e1, e2] (tCons (tVar i) (tCons (tTup tcs) tNil))) (ht : ∀ σ H Q, Q cs H → tcs σ H Q) (hp : ∀ r ta, CallR (X.suite a ((a, oe) :: pn)) (.builtin "isinstance") r → PA (X.suite a ((a, oe) :: pn)) [e1, e2] ta → PE (X.suite a ((a, oe) :: pn)) e (tCB r ta)) : EvD (X.suite a ((a, oe) :: pn)) C W e (mIsT i tbl x) := by
  unfold mIsT
  cases hk : tbl.lookup x.cls with
  | none => exact ev_never
  | some b =>
    refine ev_isXT hxa hA hX hz hf (fun c hc => ?_) hcv hl pp ht hp
    obtain ⟨c2, h1, h2⟩ := hX.cls
    rw [hc] at h1
    cases h1
    exact T _ _ hk _ h2
theorem ev_xfT {i : Nat} {f : Str} (hxa : C.xa = some a) (hA : C.A = noA) (hX : XcOk X.K C x cls d) (hz : Zc cls d oe) (hf : ∃ vs, oe.data = .fields vs) (T : TblOk X.K tbl fun c _ => XfC X.K c ∧ PySem.W.findIn X.K (.ref c) f = some none) (p1 : PE (X.suite a ((a, oe) :: pn)) e1 (tVar i))
    (hb : attributeBase e1 f X.env (eval e1 X.env) = eval e1 X.env := by rfl) : EvD (X.suite a ((a, oe) :: pn)) C W (.Attribute e1 f pos) (mXfT i tbl f x) := by
  unfold mXfT
  cases hk : tbl.lookup x.cls with
  | none => exact ev_never
  | some b =>
    refine ev_xf hxa hA hX (fun c hc te p => ?_) p1
    obtain ⟨c2, h1, h2⟩ := hX.cls
    rw [hc] at h1
    cases h1
    obtain ⟨k1, k2⟩ := T _ _ hk _ h2
    exact pe_xf k1 k2 hz hf p hb
end
/-- a list of classes: their values -/
theorem vals_refs : ∀ (cs : List Addr) (vs : List Value), Vals (cs.map V.ref) vs → vs = cs.map Value.ref
  | [], vs, h => by cases h; rfl
  | c :: r, vs, h => by
    cases h with
    | cons h1 h2 =>
      cases h1
      rw [vals_refs r _ h2]
      rfl
end DL

set_option Elab.async false
set_option linter.all false
set_option maxRecDepth 100000
/-! raise X(), X an own class without __init__ -/
namespace DL
open PySem PySem.Spec L2
theorem pmk_own0 {X : Cx} {C : Addr} {bmB : List Value} {B newId initId : String} {x : Str} {p pos : Pos} (F : ExcBaseFacts B newId initId bmB) (q : PySem.W.excIn X.K C bmB newId = true) (gC : X.mg x = some (.ref C)) (kC : PySem.W.keepIn X.K (.ref C) = true) (r : Raises X (.ref C)) (hg : Gl X x) (hd : (x == Str.ofString "__debug__") = false) :
    PMk X (.Call (.Name x p) [] [] pos) fun _ H Q => Q (.ref C) none H := by
  intro pins s σ H Q I h
  refine wpAny_Call_Name_kw (ld_glob I hg gC ?_ hd)
  have key : wpAny (model X.prog X.w) X.A (call (.ref C) []) (MkP X pins σ Q) X.xe s := by
    obtain ⟨bm, N, nm, qn, bs, hdct, sn, sub, ab, col, dd, k0, k1, k2, k3, k5, mN, h1, h2, h3, h4⟩ := exc_obj I.kIn q
    obtain ⟨hp, g, d, t, os⟩ := s
    exact wpAny_call_exc_subT F h4 h1 h2 h3 (fun h' e M => mk_of I M r h (I.hok.gone M.new)) (by simp)
  exact PySem.W.callWith_K0 I.kIn kC key
def mRaise0 (cls : String) : MoS := fun ε => some (.ex ⟨cls, []⟩ ε)
theorem st_raise0 {X : Cx} {Ct' : Ct} {W : WX} {cls : String} {C : Addr} {e : Expr} {pos2 : Pos} (hc : X.calm = true) (tk : Takes X W) (pm : PMk X e fun _ H Q => Q (.ref C) none H) (hn : PySem.W.nsIn X.K mainGlobals (Str.ofString cls) = some (some (.ref C))) : StD X Ct' W (.Raise (some e) none pos2) (mRaise0 cls) :=
  ⟨_, ps_raise hc tk pm, fun F H σ ε D R q => q (.ref C) none F H σ R (Same.refl F) ⟨⟨C, rfl, hn⟩, .inl ⟨rfl, rfl⟩⟩⟩
end DL

set_option Elab.async false
set_option linter.all false
set_option maxRecDepth 100000
namespace DL
open PySem PySem.Spec L2
section
variable {X : Cx} {C : Ct} {W : WX} {a b e : Expr} {pos : Pos} {f g : Mo D}
/-! ### a written dict of the module, its keys texts -/
def gKd (tbl : List (Str × D)) : D → Option D
  | .str z => tbl.lookup z
  | _ => none
def KdOk (K : PySem.W.Frag) (w : World) (p : Addr) (tbl : List (Str × D)) : Prop := ∀ z d, tbl.lookup z = some d → ∃ v, KDct K w p z v ∧ ∀ F, RepD K F v d
theorem kd_nil {K : PySem.W.Frag} {w : World} {p : Addr} : KdOk K w p [] := fun z d h => by cases h
theorem kd_cons {K : PySem.W.Frag} {w : World} {p : Addr} {x : Str} {c : D} {v : V} {u : Value} {es : Array DictEntry} {n : Nat} {tbl : List (Str × D)} (hl : K.lookup p = some ⟨.type "dict", none, .dict es n, #[]⟩) (hk : PySem.W.KeysLit w.params es.toList) (h : PySem.W.nsIn K p x = some (some u)) (hr : RelV v u) (hd : ∀ F, RepD K F v c) (r : KdOk K w p tbl) : KdOk K w p ((x, c) :: tbl) := fun z d q => by
  rw [List.lookup_cons] at q
  by_cases hz : (z == x) = true
  · rw [hz] at q
    have : c = d := Option.some.inj q
    subst this
    rw [eq_of_beq hz]
    exact ⟨v, ⟨es, n, u, hl, hk, h, hr⟩, hd⟩
  · have h0 : (z == x) = false := by simpa using hz
    rw [h0] at q
    exact r z d q
theorem ev_kd {p : Addr} {tbl : List (Str × D)} (ha : PE X a (tC (.ref p))) (hk : KdOk X.K X.w p tbl) (hs : PlainIx b) (hb : EvD X C W b g) : EvD X C W (.Subscript a b pos) (mUn (gKd tbl) g) := by
  obtain ⟨tb, pb, sb⟩ := hb
  refine ⟨_, pe_ix ix_kdict ha pb hs, fun F H σ ε Q R q => ?_⟩
  show tb σ H _
  refine sb F H σ ε _ R (q.bind.imp (fun d e q1 v F1 H1 R1 st1 r1 => ?_) fun x e z => z)
  unfold lft at q1
  cases hg : gKd tbl d with
  | none => rw [hg] at q1; exact q1.elim
  | some c =>
    rw [hg] at q1
    cases d with
    | str z =>
      have := rep_str r1
      subst this
      obtain ⟨w, k1, k2⟩ := hk z c hg
      exact ⟨p, z, w, rfl, rfl, k1, q1 w F1 H1 R1 st1 (k2 F1)⟩
    | _ => cases hg
/-! ### a call of a local name that holds a def of the module -/
structure DefOk (P : Program) (w : World) (K : PySem.W.Frag) (mg : Str → Option Value) (base : Heap) (k n : Nat) (x : Str) (m : List D → Option Ans) : Prop where
  ex : ∃ (f : Addr) (fd : FuncData) (ps : List Str), PySem.W.nsIn K mainGlobals x = some (some (.ref f)) ∧ FnOk P w K mg base (L2.CX P w) k f fd ps (SpP K n m) ∧ PySem.W.keepIn K (.ref f) = true ∧ Binds K fd ps []
def TabD (P : Program) (w : World) (K : PySem.W.Frag) (mg : Str → Option Value) (base : Heap) (k n : Nat) (tbl : List (Str × (List D → Option Ans))) : Prop := ∀ x m, tbl.lookup x = some m → DefOk P w K mg base k n x m
theorem td_nil {P : Program} {w : World} {K : PySem.W.Frag} {mg : Str → Option Value} {base : Heap} {k n : Nat} : TabD P w K mg base k n [] := fun z d h => by cases h
theorem td_cons {P : Program} {w : World} {K : PySem.W.Frag} {mg : Str → Option Value} {base : Heap} {k n : Nat} {x : Str} {m : List D → Option Ans} {tbl : List (Str × (List D → Option Ans))} (h : DefOk P w K mg base k n x m) (r : TabD P w K mg base k n tbl) : TabD P w K mg base k n ((x, m) :: tbl) := fun z d q => by
  rw [List.lookup_cons] at q
  by_cases hz : (z == x) = true
  · rw [hz] at q
    have : m = d := Option.some.inj q
    subst this
    rw [eq_of_beq hz]
    exact h
  · have h0 : (z == x) = false := by simpa using hz
    rw [h0] at q
    exact r z d q
def tCallT (K : PySem.W.Frag) (i n : Nat) (tbl : List (Str × (List D → Option Ans))) (E : St → XK) (t : TA) : TE := fun σ H Q => ∃ f x m, σ[i]? = some (some (.ref f)) ∧ PySem.W.nsIn K mainGlobals x = some (some (.ref f)) ∧ tbl.lookup x = some m ∧ t σ H fun vs H1 => SpP K n m vs H1 Q (E σ)
theorem pe_callT {k i n : Nat} {tbl : List (Str × (List D → Option Ans))} {E : St → XK} {x : Str} {p pos : Pos} {e : Expr} {es : List Expr} {t : TA} (hT : TabD X.prog X.w X.K X.mg X.base k n tbl) (hr : Room k X.A) (hv : PE X (.Name x p) (tVar i)) (hx : ∀ σ, PassesAt (L2.CX X.prog X.w) X σ (E σ)) (ha : PA X (e :: es) t)
    (he : starEach (e :: es) X.env = (false, eval e X.env) :: starEach es X.env := by rfl) (hpl : (backTo pos (starEach es X.env)).any (·.1) = false := by rfl) : PE X (.Call (.Name x p) (e :: es) [] pos) (tCallT X.K i n tbl E t) := by
  refine ⟨fun pins s σ H Q I h => ?_⟩
  obtain ⟨f, y, m, hs, hn, hm, ht⟩ := h
  obtain ⟨f', fd, ps, hn', F, hk, hb⟩ := (hT y m hm).ex
  rw [hn] at hn'
  cases hn'
  refine wpAny_Call_Name_kw (thn (hv.run pins s σ H (fun v H1 => v = .ref f ∧ H1 = H) I ⟨.ref f, hs, rfl, rfl⟩) fun u s1 ⟨v, H1, I1, r1, q1⟩ => ?_)
  obtain ⟨rfl, rfl⟩ := q1
  cases r1
  refine PySem.W.callWith_K (h₀ := X.base) I.ok.mod.kin hk (thn (ha.run pos pins s1 σ _ _ I1 ht) fun us s2 ⟨vs, H2, I2, r, q⟩ => ⟨I2.kIn, ?_⟩) he hpl
  exact run_fnSD F hr hb .nil (hx σ) I2 r (by rw [List.append_nil]; exact q)
def mCallL (i n : Nat) (tbl : List (Str × (List D → Option Ans))) (f : Mo (List D)) : Mo D := fun ε => match ε[i]? with
  | some (.dat (.fn x)) => (match tbl.lookup x with
    | some m => mFn n m f ε
    | none => none)
  | _ => none
theorem ev_loc {i n : Nat} {tbl : List (Str × (List D → Option Ans))} {es : List Expr} {fs : Mo (List D)} {E : St → XK} (hE : E = WE W) (ha : EaD X C W es fs) (hp : ∀ ta, PA X es ta → PE X e (tCallT X.K i n tbl E ta)) : EvD X C W e (mCallL i n tbl fs) := by
  subst hE
  obtain ⟨ta, p1, s1⟩ := ha
  refine ⟨_, hp _ p1, fun F H σ ε Q R q => ?_⟩
  unfold mCallL at q
  cases he : ε[i]? with
  | none => rw [he] at q; exact q.elim
  | some z =>
    rw [he] at q
    cases z with
    | dat d =>
      cases d with
      | fn x =>
        dsimp only at q
        cases hm : tbl.lookup x with
        | none => rw [hm] at q; exact q.elim
        | some m =>
          rw [hm] at q
          dsimp only at q
          obtain ⟨v, h1, h2⟩ := R.ent i _ he
          cases h2 with
          | fn hn =>
            refine ⟨_, x, m, h1, hn, hm, ?_⟩
            refine s1 F H σ ε _ R (q.bind.imp (fun ds e q1 vs F1 H1 R1 st1 r1 => ?_) fun x e z => z)
            by_cases hl : ds.length = n
            · rw [if_pos hl] at q1
              refine ⟨by rw [r1.length]; exact hl, F1, ds, R1.fh, r1, ?_⟩
              unfold ansM at q1
              cases hmm : m ds with
              | none => rw [hmm] at q1; exact q1.elim
              | some an =>
                rw [hmm] at q1
                cases an with
                | ret d => exact fun v F' H' st r => q1 v F' H' (R1.step st) (st1.trans st.stp) r
                | exc x => exact fun c od F' H' st r => q1 c od F' H' (R1.step st) (st1.trans st.stp) r
            · rw [if_neg hl] at q1; exact q1.elim
      | _ => exact q.elim
    | _ => exact q.elim
theorem cl_loc {k i n : Nat} {tbl : List (Str × (List D → Option Ans))} {x : Str} {p pos : Pos} {e : Expr} {es : List Expr} {fs : Mo (List D)} (hT : TabD X.prog X.w X.K X.mg X.base k n tbl) (tk : Takes X W) (hr : Room k X.A) (hv : PE X (.Name x p) (tVar i))
    (ha : EaD X C W (e :: es) fs) (he : starEach (e :: es) X.env = (false, eval e X.env) :: starEach es X.env := by rfl) (hpl : (backTo pos (starEach es X.env)).any (·.1) = false := by rfl) :
    EvD X C W (.Call (.Name x p) (e :: es) [] pos) (mCallL i n tbl fs) := ev_loc rfl ha fun _ pa => pe_callT hT hr hv (fun σ => passAt tk σ) pa he hpl
/-! ### f() -/
theorem pe_callZ {k : Nat} {f : Addr} {fd : FuncData} {ps : List Str} {sp : Sp} {E : St → XK} {x : Str} {p pos : Pos} (F : FnOk X.prog X.w X.K X.mg X.base (L2.CX X.prog X.w) k f fd ps sp) (hr : Room k X.A) (hg : Gl X x) (hm : X.mg x = some (.ref f)) (hk : PySem.W.keepIn X.K (.ref f) = true) (hb : Binds X.K fd ps []) (hx : ∀ σ, PassesAt (L2.CX X.prog X.w) X σ (E σ))
    (hdb : (x == ("__debug__" : Str)) = false := by decide) : PE X (.Call (.Name x p) [] [] pos) (tCallS sp E tNil) := by
  refine ⟨fun pins s σ H Q I h => ?_⟩
  refine wpAny_Call_Name_kw (ld_glob I hg hm ?_ hdb)
  exact PySem.W.callWith_K0 I.kIn hk (run_fnS (us := []) F hr hb (hx σ) I .nil h)
theorem cl_fn0 {k n : Nat} {f : Addr} {fd : FuncData} {ps : List Str} {m : List D → Option Ans} {x : Str} {p pos : Pos} (F : FnOk X.prog X.w X.K X.mg X.base (L2.CX X.prog X.w) k f fd ps (SpP X.K n m)) (tk : Takes X W) (hr : Room k X.A) (hg : Gl X x) (hm : X.mg x = some (.ref f)) (hk : PySem.W.keepIn X.K (.ref f) = true) (hb : Binds X.K fd ps [])
    (hdb : (x == ("__debug__" : Str)) = false := by decide) : EvD X C W (.Call (.Name x p) [] [] pos) (mFn n m (pur [])) := by
  refine ⟨_, pe_callZ (E := WE W) F hr hg hm hk hb (fun σ => passAt tk σ) hdb, fun F0 H σ ε Q R q => ?_⟩
  have q1 : Good ((if ([] : List D).length = n then ansM (m []) else lft none) ε) _ _ := q
  by_cases hl : ([] : List D).length = n
  · rw [if_pos hl] at q1
    refine ⟨hl, F0, [], R.fh, .nil, ?_⟩
    unfold ansM at q1
    cases hm2 : m [] with
    | none => rw [hm2] at q1; exact q1.elim
    | some an =>
      rw [hm2] at q1
      cases an with
      | ret d => exact fun v F' H' st r => q1 v F' H' (R.step st) st.stp r
      | exc x => exact fun c od F' H' st r => q1 c od F' H' (R.step st) st.stp r
  · rw [if_neg hl] at q1; exact q1.elim
/-! ### s.upper() -/
def gUpper : D → Option D
  | .str x => if x.length ≤ 1000 then some (.str (Txt.upper x)) else none
  | _ => none
theorem ev_upper {apos pos : Pos} (ho : EvD X C W a f) (hbase : attributeBase a "upper" X.env (eval a X.env) = eval a X.env := by rfl) (hline : (apos.endLine == pos.line) = true := by rfl) : EvD X C W (.Call (.Attribute a "upper" apos) [] [] pos) (mUn gUpper f) := by
  obtain ⟨ta, pa, sa⟩ := ho
  refine ⟨_, pe_upper pa hbase hline, fun F H σ ε Q R q => ?_⟩
  refine sa F H σ ε _ R (q.bind.imp (fun d e q1 v F1 H1 R1 st1 r1 => ?_) fun x e z => z)
  unfold lft at q1
  cases hg : gUpper d with
  | none => rw [hg] at q1; exact q1.elim
  | some c =>
    rw [hg] at q1
    cases d with
    | str z =>
      have := rep_str r1
      subst this
      by_cases hl : z.length ≤ 1000
      · simp only [gUpper, hl, if_true, Option.some.injEq] at hg
        subst hg
        exact ⟨⟨_, rfl⟩, _, rfl, rfl, Nat.le_trans hl (by decide), q1 _ F1 H1 R1 st1 (.str _)⟩
      · simp only [gUpper, hl, if_false] at hg
        cases hg
    | _ => cases hg
/-! ### names unpacked from a list -/
def gdLst (is : List Nat) : Tg := ⟨is, fun d => match d with
  | .lst ds => if ds.length = is.length then some ds else none
  | _ => none⟩
theorem sg_lst {K : PySem.W.Frag} {is : List Nat} {n : Nat} (hn : n = is.length) : SdG K (gUnl K n (gNames is)) (gdLst is) := fun F H σ v d ds Q s r e q => by
  unfold gdLst at e
  dsimp only at e
  split at e
  · split at e
    · rename_i hl
      cases e
      obtain ⟨a, xs, rfl, h, r2⟩ := rep_seqs r
      exact ⟨a, xs, rfl, Same.seq s h, by rw [r2.length, hl, hn], gNames_run (by rw [r2.length]; exact hl) (q xs r2)⟩
    · cases e
  · cases e
end
end DL

set_option Elab.async false
set_option linter.all false
set_option maxRecDepth 100000
namespace DL
open PySem PySem.Spec L2
/-! ### dicts of one's own -/
section
variable {K : PySem.W.Frag} {F : Hp} {κ : Type} [DecidableEq κ]
def valQ (qs : List (κ × D)) (k : κ) : Option D := (qs.find? fun kv => decide (kv.1 = k)).map (·.2)
def putQ (qs : List (κ × D)) (k : κ) (d : D) : List (κ × D) :=
  if (qs.any fun kv => decide (kv.1 = k)) = true then qs.map (fun kv => if kv.1 = k then (kv.1, d) else kv) else qs ++ [(k, d)]
theorem RepQ.val : ∀ {kvs : List (κ × V)} {qs : List (κ × D)} {k : κ} {d : D}, RepQ K F kvs qs → valQ qs k = some d → ∃ v, valV kvs k = some v ∧ RepD K F v d
  | [], [], k, d, _, e => by cases e
  | (x, v) :: r, (y, c) :: t, k, d, h, e => by
    obtain ⟨h1, h2, h3⟩ := h
    subst h1
    by_cases hx : x = k
    · subst hx
      simp [valQ] at e
      subst e
      exact ⟨v, by simp [valV], h2⟩
    · have e2 : valQ t k = some d := by simpa [valQ, List.find?_cons, hx] using e
      obtain ⟨w, a, b⟩ := RepQ.val h3 e2
      exact ⟨w, by rw [valV_neg hx]; exact a, b⟩
  | [], _ :: _, _, _, h, _ => h.elim
  | _ :: _, [], _, _, h, _ => h.elim
theorem RepQ.any : ∀ {kvs : List (κ × V)} {qs : List (κ × D)} (k : κ), RepQ K F kvs qs → (kvs.any fun kv => decide (kv.1 = k)) = (qs.any fun kv => decide (kv.1 = k))
  | [], [], _, _ => rfl
  | (x, v) :: r, (y, c) :: t, k, h => by
    obtain ⟨h1, h2, h3⟩ := h
    subst h1
    rw [List.any_cons, List.any_cons, RepQ.any k h3]
  | [], _ :: _, _, h => h.elim
  | _ :: _, [], _, h => h.elim
theorem RepQ.map : ∀ {kvs : List (κ × V)} {qs : List (κ × D)} {k : κ} {v : V} {d : D}, RepQ K F kvs qs → RepD K F v d → RepQ K F (kvs.map fun kv => if kv.1 = k then (kv.1, v) else kv) (qs.map fun kv => if kv.1 = k then (kv.1, d) else kv)
  | [], [], _, _, _, _, _ => trivial
  | (x, w) :: r, (y, c) :: t, k, v, d, h, hd => by
    obtain ⟨h1, h2, h3⟩ := h
    subst h1
    rw [List.map_cons, List.map_cons]
    by_cases hx : x = k
    · simp only [hx, if_true]
      exact ⟨rfl, hd, RepQ.map h3 hd⟩
    · simp only [hx, if_false]
      exact ⟨rfl, h2, RepQ.map h3 hd⟩
  | [], _ :: _, _, _, _, h, _ => h.elim
  | _ :: _, [], _, _, _, h, _ => h.elim
theorem RepQ.snoc : ∀ {kvs : List (κ × V)} {qs : List (κ × D)} {k : κ} {v : V} {d : D}, RepQ K F kvs qs → RepD K F v d → RepQ K F (kvs ++ [(k, v)]) (qs ++ [(k, d)])
  | [], [], _, _, _, _, hd => ⟨rfl, hd, trivial⟩
  | (x, w) :: r, (y, c) :: t, k, v, d, h, hd => ⟨h.1, h.2.1, RepQ.snoc h.2.2 hd⟩
  | [], _ :: _, _, _, _, h, _ => h.elim
  | _ :: _, [], _, _, _, h, _ => h.elim
theorem RepQ.put {kvs : List (κ × V)} {qs : List (κ × D)} {k : κ} {v : V} {d : D} (h : RepQ K F kvs qs) (hd : RepD K F v d) : RepQ K F (putK kvs k v) (putQ qs k d) := by
  unfold putK putQ
  rw [RepQ.any k h]
  split
  · exact RepQ.map h hd
  · exact RepQ.snoc h hd
omit [DecidableEq κ] in
theorem RepQ.length : ∀ {kvs : List (κ × V)} {qs : List (κ × D)}, RepQ K F kvs qs → kvs.length = qs.length
  | [], [], _ => rfl
  | (x, w) :: r, (y, c) :: t, h => by rw [List.length_cons, List.length_cons, RepQ.length h.2.2]
  | [], _ :: _, h => h.elim
  | _ :: _, [], h => h.elim
omit [DecidableEq κ] in
theorem RepQ.zip {kvs : List (κ × V)} {ks : List κ} {ds : List D} (e : kvs.map (·.1) = ks) (r : RepL K F (kvs.map (·.2)) ds) : RepQ K F kvs (ks.zip ds) := by
  have hl := r.length
  rw [List.length_map] at hl
  have hk : ks.length = kvs.length := by rw [← e, List.length_map]
  refine RepQ.of ?_ ?_
  · rw [e, List.map_fst_zip (by omega)]
  · rw [List.map_snd_zip (by omega)]; exact r
end
def keyD : D → Option Key
  | .int i => some (.inl i)
  | .str x => some (.inr x)
  | _ => none
theorem keyD_rep {K : PySem.W.Frag} {F : Hp} {v : V} {d : D} {k : Key} (h : RepD K F v d) (e : keyD d = some k) : v = kV k := by
  cases d with
  | int i => cases e; exact rep_int h
  | str x => cases e; exact rep_str h
  | _ => cases e
section
variable {X : Cx} {C : Ct} {W : WX} {a b e : Expr} {pos : Pos} {f g : Mo D} {s : Stmt}
def mNewB (i : Nat) (b : OB) : MoS := fun ε => some (.nx (ε.set i (.od b)))
theorem st_newK {i : Nat} (hp : ∀ te, PE X (.Dict [] [] pos) te → PS X s (tAsg te (gName i))) : StD X C W s (mNewB i (.dk [])) := by
  refine ⟨_, hp _ pe_dnewK, fun F H σ ε D R q => ?_⟩
  intro p hp0
  obtain ⟨n1, n2, n3⟩ := R.newApart hp0
  exact q F _ _ ((R.loose (.dK []) hp0).setB i upd_same n1 (show RepO X.K F (.dK []) (.dk []) from trivial) n2 n3) (Same.refl F)
theorem st_newT {i : Nat} (hp : ∀ te, PE X (.Dict [] [] pos) te → PS X s (tAsg te (gName i))) : StD X C W s (mNewB i (.dt [])) := by
  refine ⟨_, hp _ pe_dnewT, fun F H σ ε D R q => ?_⟩
  intro p hp0
  obtain ⟨n1, n2, n3⟩ := R.newApart hp0
  exact q F _ _ ((R.loose (.dT []) hp0).setB i upd_same n1 (show RepO X.K F (.dT []) (.dt []) from trivial) n2 n3) (Same.refl F)
/-- what stands in a slot, as a dict with int and text keys -/
def dkAt : Option Ent → Option (List (Key × D))
  | some (.od (.dk qs)) => some qs
  | some (.dat (.dk ks ds)) => some (ks.zip ds)
  | _ => none
theorem dkAt_rep {K : PySem.W.Frag} {C : Ct} {F H : Hp} {σ : St} {ε : List Ent} (R : Rep K C F H σ ε) {i : Nat} {qs : List (Key × D)} (h : dkAt ε[i]? = some qs) : ∃ l kvs, σ[i]? = some (some (.ref l)) ∧ H l = some (.dK kvs) ∧ RepQ K F kvs qs := by
  cases h0 : ε[i]? with
  | none => rw [h0] at h; cases h
  | some e =>
    rw [h0] at h
    cases e with
    | od b =>
      cases b with
      | dk qs' =>
        cases h
        obtain ⟨l, o, q1, q2, q3, q4, q5⟩ := R.ent i _ h0
        cases o with
        | dK kvs => exact ⟨l, kvs, q1, q2, q4⟩
        | _ => exact q4.elim
      | _ => cases h
    | dat d =>
      cases d with
      | dk ks ds =>
        cases h
        obtain ⟨v, q1, q2⟩ := R.ent i _ h0
        cases q2 with
        | dk x1 x2 x3 => exact ⟨_, _, q1, R.fh _ _ x1, RepQ.zip x2 x3⟩
      | _ => cases h
    | _ => cases h
/-- d[k] -/
def mDGet (i : Nat) (f : Mo D) : Mo D := fun ε0 => match dkAt ε0[i]? with
  | none => none
  | some _ => bnd f (fun d ε => match dkAt ε[i]?, keyD d with
    | some qs, some k => (match valQ qs k with
      | some v => some (.ok v ε)
      | none => none)
    | _, _ => none) ε0
theorem ev_dget {i : Nat} (hf : EvD X C W a f) (hp : ∀ ta, PE X a ta → PE X e (tDGet (tVar i) ta)) : EvD X C W e (mDGet i f) := by
  obtain ⟨ta, p1, s1⟩ := hf
  refine ⟨_, hp _ p1, fun F H σ ε Q R q => ?_⟩
  unfold mDGet at q
  cases h0 : dkAt ε[i]? with
  | none => rw [h0] at q; exact q.elim
  | some q0 =>
    rw [h0] at q
    obtain ⟨l, kvs0, a0, _, _⟩ := dkAt_rep R h0
    refine ⟨.ref l, a0, ?_⟩
    refine s1 F H σ ε _ R (q.bind.imp (fun d e q1 v F1 H1 R1 st1 r1 => ?_) fun x e z => z)
    cases h1 : dkAt e[i]? with
    | none => rw [h1] at q1; exact q1.elim
    | some qs =>
      cases h2 : keyD d with
      | none => rw [h1, h2] at q1; exact q1.elim
      | some k =>
        rw [h1, h2] at q1
        dsimp only at q1
        cases h3 : valQ qs k with
        | none => rw [h3] at q1; exact q1.elim
        | some c =>
          rw [h3] at q1
          obtain ⟨l1, kvs, a1, b1, r⟩ := dkAt_rep R1 h1
          rw [a0] at a1
          cases a1
          obtain ⟨w, e1, e2⟩ := r.val h3
          refine ⟨l, w, rfl, ?_, q1 w F1 H1 R1 st1 e2⟩
          rw [keyD_rep r1 h2, ← e1]
          exact DGet.k b1
/-- d[k] = v -/
def mDPut (i : Nat) (fv fk : Mo D) : MoS := mThen fv fun d ε0 => match dkAt ε0[i]? with
  | none => none
  | some _ => mThen fk (fun c ε => match ε[i]?, keyD c with
    | some (.od (.dk qs)), some k => if qs.length < 1000000 then some (.nx (ε.set i (.od (.dk (putQ qs k d))))) else none
    | _, _ => none) ε0
theorem st_dput {i : Nat} {v k : Expr} (hp : ∀ te tk, PE X v te → PE X k tk → PS X s (sDPut (tVar i) tk te)) (hv : EvD X C W v f) (hk : EvD X C W k g) : StD X C W s (mDPut i f g) := by
  obtain ⟨te, p1, s1⟩ := hv
  obtain ⟨tk, p2, s2⟩ := hk
  refine ⟨_, hp _ _ p1 p2, fun F H σ ε D R q => ?_⟩
  refine s1 F H σ ε _ R ((then_good q).imp (fun d e q1 v F1 H1 R1 st1 r1 => ?_) fun x e z => z)
  cases h0 : dkAt e[i]? with
  | none => rw [h0] at q1; exact q1.elim
  | some q0 =>
    rw [h0] at q1
    obtain ⟨l, kvs0, a0, _, _⟩ := dkAt_rep R1 h0
    refine ⟨.ref l, a0, ?_⟩
    refine s2 F1 H1 σ e _ R1 ((then_good (q1.mono st1.ff)).imp (fun c e2 q2 w F2 H2 R2 st2 r2 => ?_) fun x e z => z)
    cases h1 : e2[i]? with
    | none => rw [h1] at q2; exact q2.elim
    | some en =>
      rw [h1] at q2
      cases en with
      | od b =>
        cases b with
        | dk qs =>
          cases h2 : keyD c with
          | none => rw [h2] at q2; exact q2.elim
          | some k =>
            rw [h2] at q2
            dsimp only at q2
            by_cases hl : qs.length < 1000000
            · rw [if_pos hl] at q2
              obtain ⟨l1, o, a1, b1, c1, r, g1⟩ := R2.ent i _ h1
              rw [a0] at a1
              cases a1
              cases o with
              | dK kvs =>
                have r3 : RepQ X.K F2 (putK kvs k v) (putQ qs k d) := RepQ.put r (r1.mono st2.ff)
                have R3 := R2.changeB (o := .dK (putK kvs k v)) (b1 := .dk (putQ qs k d)) h1 rfl a0 r3 (.inl ⟨rfl, rfl⟩)
                refine ⟨l, _, rfl, ?_, q2 F2 _ σ R3 st2.ff⟩
                rw [keyD_rep r2 h2]
                exact DPut.k b1 (Nat.lt_of_lt_of_le (by rw [RepQ.length r]; exact hl) (by decide))
              | _ => exact r.elim
            · rw [if_neg hl] at q2; exact q2.elim
        | _ => exact q2.elim
      | _ => exact q2.elim
end
end DL

set_option Elab.async false
set_option linter.all false
set_option maxRecDepth 100000
namespace DL
open PySem PySem.Spec L2
/-! ### defs whose first argument is an object that they change (a dict, an instance) -/
def SpB (K : PySem.W.Frag) (n : Nat) (m : OB → List D → Option (Ans × OB)) : Sp := fun vs H Q E => vs.length = n ∧ ∃ F l o ws b ds, vs = .ref l :: ws ∧ Same F H ∧ H l = some o ∧ F l = none ∧ RepO K F o b ∧ RepL K F ws ds ∧ match m b ds with
  | some (.ret d, b') => ∀ v F' H' o', Same F F' → Same F' H' → (∀ c u, H c = some u → c ≠ l → H' c = some u) → (∀ c, H c ≠ none → F' c = F c) → H' l = some o' → F' l = none → RepO K F' o' b' → RepD K F' v d → Q v H'
  | some (.exc x, b') => ∀ cc od F' H' o', Same F F' → Same F' H' → (∀ c u, H c = some u → c ≠ l → H' c = some u) → (∀ c, H c ≠ none → F' c = F c) → H' l = some o' → F' l = none → RepO K F' o' b' → RepX K F' H' x cc od → E cc od H'
  | none => False
def envB (n : Nat) (b : OB) (ds : List D) : List Ent := .ib b :: (ds.map .dat ++ List.replicate (n - (ds.length + 1)) .un)
def outB : Option ResS → Option (Ans × OB)
  | some (.nx (.ib b :: _)) => some (.ret .non, b)
  | some (.rt d (.ib b :: _)) => some (.ret d, b)
  | some (.ex x (.ib b :: _)) => some (.exc x, b)
  | _ => none
def runB (n : Nat) (g : MoS) (b : OB) (ds : List D) : Option (Ans × OB) := outB (g (envB n b ds))
theorem rep_startB {K : PySem.W.Frag} {F H : Hp} {l : Addr} {o : HO} {vs : List V} {b : OB} {ds : List D} {N : List Str} (s : Same F H) (h1 : H l = some o) (h2 : F l = none) (h3 : RepO K F o b) (r : RepL K F vs ds) :
    Rep K ⟨F, H, oneA l, none⟩ F H (L2.start N (.ref l :: vs)) (envB N.length b ds) where
  fh := s
  ff := Same.refl F
  old := fun _ _ => rfl
  keep := fun _ _ h _ => h
  tr := fun _ h => h
  len := by
    have := r.length
    simp only [L2.start, envB, List.length_append, List.length_map, List.length_cons, List.length_replicate]
    omega
  ent := fun i e he => by
    unfold envB at he
    unfold L2.start
    cases i with
    | zero =>
      cases he
      exact ⟨l, o, rfl, h1, h2, h3, rfl⟩
    | succ i =>
      rw [List.getElem?_cons_succ] at he
      rw [List.map_cons, List.cons_append, List.getElem?_cons_succ]
      by_cases hi : i < ds.length
      · rw [List.getElem?_append_left (by rw [List.length_map]; exact hi), List.getElem?_map] at he
        rw [List.getElem?_append_left (by rw [List.length_map, r.length]; exact hi), List.getElem?_map]
        cases hd : ds[i]? with
        | none => rw [hd] at he; cases he
        | some d =>
          rw [hd] at he
          cases he
          obtain ⟨v, h1, h2⟩ := r.get hd
          exact ⟨v, by rw [h1]; rfl, h2⟩
      · rw [List.getElem?_append_right (by rw [List.length_map]; omega)] at he
        have := List.mem_of_getElem? he
        rw [List.eq_of_mem_replicate this]
        trivial
  dis := fun i j m e e' k1 k2 k3 k4 k5 k6 => by
    have only : ∀ (i : Nat) (e : Ent), (envB N.length b ds)[i]? = some e → e.mut = true → i = 0 := fun i e he hm => by
      cases i with
      | zero => rfl
      | succ i =>
        exfalso
        unfold envB at he
        rw [List.getElem?_cons_succ] at he
        have hm2 := List.mem_of_getElem? he
        rcases List.mem_append.mp hm2 with h | h
        · obtain ⟨d, _, rfl⟩ := List.mem_map.mp h
          cases hm
        · rw [List.eq_of_mem_replicate h] at hm
          cases hm
    rw [only i e k3 k5, only j e' k4 k6]
section
variable {P : Program} {w : World} {K : PySem.W.Frag} {mg : Str → Option Value} {base : Heap}
theorem fn_B {x qual : Str} {st : Stmt} {f : Addr} {fd : FuncData} {N ps : List Str} {k : Nat} {g : MoS} {m : OB → List D → Option (Ans × OB)} (F : Fun K x qual st f fd) (S : FnScope N ps (defScope st))
    (hb : ∀ (cdv : Value) (A : Around) (outer : List Env) (s : Shared) (H : Hp) (E : XK) (C : Ct), Room k (A.deeper (PyProof.Rows.envOfC qual (defScope st) s.heap.objs.size f cdv)) → Takes (cxOf (L2.CX P w) P w K mg base N qual (defScope st) f cdv A outer s H E) (fun c d _ H' => E c d H') →
      SsD (cxOf (L2.CX P w) P w K mg base N qual (defScope st) f cdv A outer s H E) C (fun c d _ H' => E c d H') (defBody st) g)
    (hm : ∀ b ds a, ds.length + 1 = ps.length → m b ds = some a → outB (g (envB N.length b ds)) = some a) : FnOk P w K mg base (CXX P w) (k + 1) f fd ps (SpB K ps.length m) := by
  refine F.okX S (fun vs H Q E h => h.1) (fun cdv A outer s H vs Q E hr h => ?_)
  obtain ⟨hl, F0, l, o, ws, b, ds, rfl, sF, h1, h2, h3, r, h⟩ := h
  obtain ⟨ts, p, sd⟩ := hb cdv A outer s H E ⟨F0, H, oneA l, none⟩ hr (takes_of rfl rfl rfl rfl)
  refine ⟨ts, p, sd F0 H _ (envB N.length b ds) _ (rep_startB sF h1 h2 h3 r) ?_⟩
  cases hmd : m b ds with
  | none => rw [hmd] at h; exact h.elim
  | some a =>
    have ha := hm b ds a (by rw [← r.length]; exact hl) hmd
    rw [hmd] at h
    have io : ∀ {F' H' σ' b' r'}, Rep K ⟨F0, H, oneA l, none⟩ F' H' σ' (.ib b' :: r') → (∀ c u, H c = some u → c ≠ l → H' c = some u) ∧ ∃ o', H' l = some o' ∧ F' l = none ∧ RepO K F' o' b' := fun {F' H' σ' b' r'} R => by
      refine ⟨fun b o e n => R.keep b o e (oneA_ne n), ?_⟩
      obtain ⟨l2, o', _, b, c, d, e⟩ := R.ent 0 _ rfl
      cases e
      exact ⟨o', b, c, d⟩
    unfold outB at ha
    cases hg : g (envB N.length b ds) with
    | none => rw [hg] at ha; cases ha
    | some r2 =>
      rw [hg] at ha
      cases r2 with
      | nx e =>
        cases e with
        | nil => cases ha
        | cons e0 er =>
          cases e0 with
          | ib b' =>
            cases ha
            intro F' H' σ' R s2
            obtain ⟨k1, o', k2, k3, k4⟩ := io R
            exact h .non F' H' o' s2 R.fh k1 R.old k2 k3 k4 .non
          | _ => cases ha
      | rt d e =>
        cases e with
        | nil => cases ha
        | cons e0 er =>
          cases e0 with
          | ib b' =>
            cases ha
            intro v F' H' σ' R s2 rv
            obtain ⟨k1, o', k2, k3, k4⟩ := io R
            exact h v F' H' o' s2 R.fh k1 R.old k2 k3 k4 rv
          | _ => cases ha
      | ex x e =>
        cases e with
        | nil => cases ha
        | cons e0 er =>
          cases e0 with
          | ib b' =>
            cases ha
            intro c od F' H' σ' R s2 rx
            obtain ⟨k1, o', k2, k3, k4⟩ := io R
            exact h c od F' H' o' s2 R.fh k1 R.old k2 k3 k4 rx
          | _ => cases ha
      | ro d e => cases ha
      | bk e => cases ha
      | ct e => cases ha
end
/-! ### C(..) -/
def tMakeS (C : Addr) (sp : Sp) (E : St → XK) (t : TA) : TE := fun σ H Q => t σ H fun vs H1 => ∀ x dx, H1 x = none → H1 dx = none → dx ≠ x →
  sp (.ref x :: vs) (upd (upd H1 dx (.own x)) x (.ins C dx [])) (fun v H2 => v = .non ∧ Q (.ref x) H2) (E σ)
section
variable {X : Cx} {C : Ct} {W : WX} {a b e : Expr} {pos : Pos} {f g : Mo D} {s : Stmt}
theorem run_makeS {pins : List (Addr × Obj)} {σ : St} {H : Hp} {s : Shared} {Q : VK} {us : List Value} {vs : List V} {k : Nat} {Ca f : Addr} {fd : FuncData} {ps : List Str} {sp : Sp} {E : St → XK} (M : Mk X.K Ca f) (F : FnOk X.prog X.w X.K X.mg X.base (L2.CX X.prog X.w) k f fd ps sp) (hr : Room (k + 1) X.A) (hb : Binds X.K fd ps [])
    (hx : PassesAt (L2.CX X.prog X.w) X σ (E σ)) (I : Inv X pins σ H s) (r : Vals vs us)
    (h : ∀ x dx, H x = none → H dx = none → dx ≠ x → sp (.ref x :: vs) (upd (upd H dx (.own x)) x (.ins Ca dx [])) (fun v H2 => v = .non ∧ Q (.ref x) H2) (E σ)) :
    wpAny (model X.prog X.w) X.A (call (.ref Ca) us) (EP X pins σ Q) X.xe s := by
  have hq := h (s.heap.objs.size + 1) s.heap.objs.size (I.hok.fresh (Nat.le_succ _)) (I.hok.fresh (Nat.le_refl _)) (Nat.ne_of_lt (Nat.lt_succ_self _))
  have I2 := Inv.made (C := Ca) I
  have r2 : Vals (V.ref (s.heap.objs.size + 1) :: vs) (Value.ref (s.heap.objs.size + 1) :: us) := .cons rfl r
  have hl : (Value.ref (s.heap.objs.size + 1) :: us).length = ps.length := by
    have e := r2.length
    rw [F.len _ _ _ _ hq] at e
    exact e.symm
  have bb := hb { s with heap := (s.heap.push PySem.W.emptyDict).push (PySem.W.instObj Ca s.heap.objs.size) } (Value.ref (s.heap.objs.size + 1) :: us) I2.kIn (by rw [List.append_nil]; exact hl)
  rw [List.append_nil] at bb
  refine wpAny_call (make_map (f := f) I.kIn M.makes M.init (beq_iff_eq.mp M.fn) (codeAny_mono (F.run _ X.stack _ _ ⟨Value.ref (s.heap.objs.size + 1) :: us, []⟩ (Value.ref (s.heap.objs.size + 1) :: us) _ _ (E σ) (hr.make Ca us [])
    (I2.env0.make Ca us []) bb r2 hq) fun r s' hq' => ?_))
  cases r with
  | error e => exact hx pins _ _ e s' I2 hq'
  | ok fl =>
    cases fl with
    | ret u =>
      obtain ⟨v, H', I3, rv, ev, q3⟩ := I2.after hq'
      subst ev
      exact ⟨rv, ⟨V.ref (s.heap.objs.size + 1), H', I3, rfl, q3⟩⟩
    | next => exact False.elim hq'
    | brk => exact False.elim hq'
    | cont => exact False.elim hq'
theorem pe_makeS {k : Nat} {Ca f : Addr} {fd : FuncData} {ps : List Str} {sp : Sp} {E : St → XK} {x : Str} {p pos : Pos} {e : Expr} {es : List Expr} {t : TA} (M : Mk X.K Ca f) (F : FnOk X.prog X.w X.K X.mg X.base (L2.CX X.prog X.w) k f fd ps sp) (hr : Room (k + 1) X.A) (hg : Gl X x) (hm : X.mg x = some (.ref Ca)) (hb : Binds X.K fd ps []) (hx : ∀ σ, PassesAt (L2.CX X.prog X.w) X σ (E σ))
    (ha : PA X (e :: es) t) (hdb : (x == ("__debug__" : Str)) = false := by decide) (he : starEach (e :: es) X.env = (false, eval e X.env) :: starEach es X.env := by rfl) (hpl : (backTo pos (starEach es X.env)).any (·.1) = false := by rfl) :
    PE X (.Call (.Name x p) (e :: es) [] pos) (tMakeS Ca sp E t) := by
  refine ⟨fun pins s σ H Q I h => ?_⟩
  refine wpAny_Call_Name_kw (ld_glob I hg hm ?_ hdb)
  refine PySem.W.callWith_K (h₀ := X.base) I.ok.mod.kin M.kp (thn (ha.run pos pins s σ H _ I h) fun us s1 ⟨vs, H1, I1, r, q⟩ => ⟨I1.kIn, ?_⟩) he hpl
  exact run_makeS M F hr hb (hx σ) I1 r q
def mMake (c : Str) (n : Nat) (m : OB → List D → Option (Ans × OB)) (f : Mo (List D)) : Mo D := bnd f fun ds ε => if ds.length + 1 = n then (match m (.ins c []) ds with
  | some (.ret .non, b) => some (.ok b.frz ε)
  | some (.exc x, _) => some (.ex x ε)
  | _ => none) else none
theorem ev_make {c : Str} {n : Nat} {Ca : Addr} {m : OB → List D → Option (Ans × OB)} {es : List Expr} {fs : Mo (List D)} (hn : PySem.W.nsIn X.K mainGlobals c = some (some (.ref Ca))) (ha : EaD X C W es fs) (hp : ∀ ta, PA X es ta → PE X e (tMakeS Ca (SpB X.K n m) (WE W) ta)) : EvD X C W e (mMake c n m fs) := by
  obtain ⟨ta, p1, s1⟩ := ha
  refine ⟨_, hp _ p1, fun F H σ ε Q R q => ?_⟩
  refine s1 F H σ ε _ R (q.bind.imp (fun ds e q1 vs F1 H1 R1 st1 r1 => ?_) fun x e z => z)
  intro x dx hx hdx ne
  by_cases hl : ds.length + 1 = n
  · rw [if_pos hl] at q1
    have fx : F1 x = none := R1.fh.free hx
    have fdx : F1 dx = none := R1.fh.free hdx
    have sm : Same F1 (upd (upd H1 dx (.own x)) x (.ins Ca dx [])) := fun b o h => by
      rw [upd_ne (ne_of_none h fx), upd_ne (ne_of_none h fdx)]
      exact R1.fh b o h
    have up : ∀ b o, H1 b = some o → (upd (upd H1 dx (.own x)) x (.ins Ca dx [])) b = some o := fun b o h => by
      rw [upd_ne (ne_of_none h hx), upd_ne (ne_of_none h hdx)]
      exact h
    refine ⟨by rw [List.length_cons, r1.length]; exact hl, F1, x, _, vs, .ins c [], ds, rfl, sm, upd_same, fx, (show RepO X.K F1 (.ins Ca dx []) (.ins c []) from ⟨hn, trivial⟩), r1, ?_⟩
    cases hm : m (.ins c []) ds with
    | none => rw [hm] at q1; exact q1.elim
    | some r =>
      rw [hm] at q1
      obtain ⟨an, b⟩ := r
      have step : ∀ {F' H' : Hp}, Same F1 F' → Same F' H' → (∀ b o, (upd (upd H1 dx (.own x)) x (.ins Ca dx [])) b = some o → b ≠ x → H' b = some o) → (∀ b, (upd (upd H1 dx (.own x)) x (.ins Ca dx [])) b ≠ none → F' b = F1 b) → Ste F1 H1 F' H' := fun {F' H'} k1 k2 k3 k4 =>
        ⟨k1, k2, fun b hb => by
          cases q : H1 b with
          | none => exact absurd q hb
          | some o => exact k4 b (by rw [up b o q]; exact fun z => by cases z), fun b o hb => k3 b o (up b o hb) (ne_of_none hb hx)⟩
      cases an with
      | ret d =>
        cases d with
        | non =>
          intro v F' H' o' k1 k2 k3 k4 k5 k5' k6 k7
          refine ⟨rep_non k7, ?_⟩
          have st := step k1 k2 k3 k4
          have st2 : Ste F1 H1 (upd F' x o') H' := ⟨k1.trans (same_upd k5'), fun b o h => by
              by_cases hb : b = x
              · subst hb; rw [upd_same] at h; cases h; exact k5
              · rw [upd_ne hb] at h; exact k2 b o h, fun b hb => by
              rw [upd_ne (show b ≠ x from fun z => hb (by rw [z]; exact hx))]
              exact st.old b hb, st.hh⟩
          exact q1 (.ref x) (upd F' x o') H' (R1.step st2) (st1.trans st2.stp) (k6.rep (same_upd k5') upd_same)
        | _ => exact q1.elim
      | exc xx =>
        intro cc od F' H' o' k1 k2 k3 k4 k5 k5' k6 k7
        exact q1 cc od F' H' (R1.step (step k1 k2 k3 k4)) (st1.trans (step k1 k2 k3 k4).stp) k7
  · rw [if_neg hl] at q1; exact q1.elim
theorem cl_make {k n : Nat} {Ca fa : Addr} {fd : FuncData} {ps : List Str} {c : Str} {m : OB → List D → Option (Ans × OB)} {p pos : Pos} {e : Expr} {es : List Expr} {fs : Mo (List D)} (M : Mk X.K Ca fa) (F : FnOk X.prog X.w X.K X.mg X.base (L2.CX X.prog X.w) k fa fd ps (SpB X.K n m)) (tk : Takes X W) (hr : Room (k + 1) X.A) (hg : Gl X c) (hm : X.mg c = some (.ref Ca)) (hn : PySem.W.nsIn X.K mainGlobals c = some (some (.ref Ca))) (hb : Binds X.K fd ps [])
    (ha : EaD X C W (e :: es) fs) (hdb : (c == ("__debug__" : Str)) = false := by decide) (he : starEach (e :: es) X.env = (false, eval e X.env) :: starEach es X.env := by rfl) (hpl : (backTo pos (starEach es X.env)).any (·.1) = false := by rfl) :
    EvD X C W (.Call (.Name c p) (e :: es) [] pos) (mMake c n m fs) := ev_make hn ha fun _ pa => pe_makeS M F hr hg hm hb (fun σ => passAt tk σ) pa hdb he hpl
end
end DL

set_option Elab.async false
set_option linter.all false
set_option maxRecDepth 100000
namespace DL
open PySem PySem.Spec L2
/-! ### fields -/
structure ClsF (K : PySem.W.Frag) (c f : Str) : Prop where
  ex : ∃ C, PySem.W.nsIn K mainGlobals c = some (some (.ref C)) ∧ Cls K C ∧ NoAttr K C f
theorem RepQ.lookup {K : PySem.W.Frag} {F : Hp} {f : Str} {d : D} : ∀ {fs : List (Str × V)} {qs : List (Str × D)}, RepQ K F fs qs → qs.lookup f = some d → ∃ v, fs.lookup f = some v ∧ RepD K F v d
  | [], [], _, e => by cases e
  | (x, v) :: r, (y, c) :: t, h, e => by
    obtain ⟨h1, h2, h3⟩ := h
    subst h1
    rw [List.lookup_cons] at e ⊢
    cases hx : (f == x) with
    | true =>
      rw [hx] at e
      cases e
      exact ⟨v, rfl, h2⟩
    | false =>
      rw [hx] at e
      exact RepQ.lookup h3 e
  | [], _ :: _, h, _ => h.elim
  | _ :: _, [], h, _ => h.elim
theorem RepQ.nolook {K : PySem.W.Frag} {F : Hp} {f : Str} : ∀ {fs : List (Str × V)} {qs : List (Str × D)}, RepQ K F fs qs → qs.lookup f = none → fs.lookup f = none
  | [], [], _, _ => rfl
  | (x, v) :: r, (y, c) :: t, h, e => by
    obtain ⟨h1, h2, h3⟩ := h
    subst h1
    rw [List.lookup_cons] at e ⊢
    cases hx : (f == x) with
    | true => rw [hx] at e; cases e
    | false =>
      rw [hx] at e
      exact RepQ.nolook h3 e
  | [], _ :: _, h, _ => h.elim
  | _ :: _, [], h, _ => h.elim
def putS (f : Str) (d : D) : List (Str × D) → List (Str × D)
  | [] => [(f, d)]
  | (g, x) :: r => if g = f then (g, d) :: r else (g, x) :: putS f d r
theorem RepQ.putS {K : PySem.W.Frag} {F : Hp} {f : Str} {v : V} {d : D} (hd : RepD K F v d) : ∀ {fs : List (Str × V)} {qs : List (Str × D)}, RepQ K F fs qs → RepQ K F (putF f v fs) (DL.putS f d qs)
  | [], [], _ => ⟨rfl, hd, trivial⟩
  | (x, w) :: r, (y, c) :: t, h => by
    obtain ⟨h1, h2, h3⟩ := h
    subst h1
    unfold putF DL.putS
    by_cases hx : x = f
    · rw [if_pos hx, if_pos hx]; exact ⟨rfl, hd, h3⟩
    · rw [if_neg hx, if_neg hx]; exact ⟨rfl, h2, RepQ.putS hd h3⟩
  | [], _ :: _, h => h.elim
  | _ :: _, [], h => h.elim
def partsOf (c : Str) : D → Option (List (Str × D))
  | .ob c' ks ds => if c' = c then some (ks.zip ds) else none
  | _ => none
theorem parts_rep {K : PySem.W.Frag} {F : Hp} {v : V} {d : D} {c : Str} {qs : List (Str × D)} (h : RepD K F v d) (e : partsOf c d = some qs) : ∃ a C dx fs, v = .ref a ∧ PySem.W.nsIn K mainGlobals c = some (some (.ref C)) ∧ F a = some (.ins C dx fs) ∧ RepQ K F fs qs := by
  cases d with
  | ob c' ks ds =>
    by_cases hc : c' = c
    · subst hc
      simp only [partsOf, if_true, Option.some.injEq] at e
      subst e
      cases h with
      | ob n h1 h2 h3 => exact ⟨_, _, _, _, rfl, n, h1, RepQ.zip h2 h3⟩
    · simp only [partsOf, hc, if_false] at e
      cases e
  | _ => cases e
section
variable {X : Cx} {C : Ct} {W : WX} {a b e o : Expr} {pos : Pos} {f g : Mo D} {s : Stmt}
/-- e.x of data -/
def mFld (c x : Str) (f : Mo D) : Mo D := bnd f fun d => lft ((partsOf c d).bind fun qs => qs.lookup x)
theorem ev_fld {c x : Str} (T : ClsF X.K c x) (hf : EvD X C W a f) (hp : ∀ ta, PE X a ta → PE X e (tFld X.K ta x)) : EvD X C W e (mFld c x f) := by
  obtain ⟨ta, p1, s1⟩ := hf
  refine ⟨_, hp _ p1, fun F H σ ε Q R q => ?_⟩
  refine s1 F H σ ε _ R (q.bind.imp (fun d e q1 v F1 H1 R1 st1 r1 => ?_) fun x e z => z)
  unfold lft at q1
  cases hq : partsOf c d with
  | none => rw [hq] at q1; exact q1.elim
  | some qs =>
    rw [hq] at q1
    simp only [Option.bind_some] at q1
    cases hl : qs.lookup x with
    | none => rw [hl] at q1; exact q1.elim
    | some y =>
      rw [hl] at q1
      obtain ⟨Ca, n1, c1, c2⟩ := T.ex
      obtain ⟨p, C2, dx, fs, rfl, n2, h1, r⟩ := parts_rep r1 hq
      rw [n1] at n2
      cases n2
      obtain ⟨w, e1, e2⟩ := r.lookup hl
      exact ⟨p, Ca, dx, fs, w, rfl, R1.fh _ _ h1, c1, c2, e1, q1 w F1 H1 R1 st1 e2⟩
/-- what stands in a slot, as an instance -/
def insAt (c : Str) : Option Ent → Option (List (Str × D))
  | some (.od (.ins c' qs)) => if c' = c then some qs else none
  | some (.ib (.ins c' qs)) => if c' = c then some qs else none
  | some (.dat d) => partsOf c d
  | _ => none
theorem insAt_rep {K : PySem.W.Frag} {C : Ct} {F H : Hp} {σ : St} {ε : List Ent} (R : Rep K C F H σ ε) {i : Nat} {c : Str} {qs : List (Str × D)} (h : insAt c ε[i]? = some qs) : ∃ l Ca dx fs, σ[i]? = some (some (.ref l)) ∧ PySem.W.nsIn K mainGlobals c = some (some (.ref Ca)) ∧ H l = some (.ins Ca dx fs) ∧ RepQ K F fs qs := by
  cases h0 : ε[i]? with
  | none => rw [h0] at h; cases h
  | some e =>
    rw [h0] at h
    cases e with
    | od b =>
      cases b with
      | ins c' qs' =>
        by_cases hc : c' = c
        · subst hc
          simp only [insAt, if_true, Option.some.injEq] at h
          subst h
          obtain ⟨l, o, q1, q2, q3, q4, q5⟩ := R.ent i _ h0
          cases o with
          | ins C2 dx fs => exact ⟨l, C2, dx, fs, q1, q4.1, q2, q4.2⟩
          | _ => exact q4.elim
        · simp only [insAt, hc, if_false] at h
          cases h
      | _ => cases h
    | ib b =>
      cases b with
      | ins c' qs' =>
        by_cases hc : c' = c
        · subst hc
          simp only [insAt, if_true, Option.some.injEq] at h
          subst h
          obtain ⟨l, o, q1, q2, q3, q4, q5⟩ := R.ent i _ h0
          cases o with
          | ins C2 dx fs => exact ⟨l, C2, dx, fs, q1, q4.1, q2, q4.2⟩
          | _ => exact q4.elim
        · simp only [insAt, hc, if_false] at h
          cases h
      | _ => cases h
    | dat d =>
      obtain ⟨v, q1, q2⟩ := R.ent i _ h0
      obtain ⟨p, C2, dx, fs, rfl, n2, h1, r⟩ := parts_rep q2 h
      exact ⟨p, C2, dx, fs, q1, n2, R.fh _ _ h1, r⟩
    | _ => cases h
/-- x.f, x a name -/
def mFldN (i : Nat) (c x : Str) : Mo D := fun ε => match (insAt c ε[i]?).bind fun qs => qs.lookup x with
  | some d => some (.ok d ε)
  | none => none
theorem ev_fldN {i : Nat} {c x : Str} (T : ClsF X.K c x) (hp : PE X e (tFld X.K (tVar i) x)) : EvD X C W e (mFldN i c x) := by
  refine ⟨_, hp, fun F H σ ε Q R q => ?_⟩
  unfold mFldN at q
  cases h0 : insAt c ε[i]? with
  | none => rw [h0] at q; exact q.elim
  | some qs =>
    rw [h0] at q
    simp only [Option.bind_some] at q
    cases hl : qs.lookup x with
    | none => rw [hl] at q; exact q.elim
    | some y =>
      rw [hl] at q
      obtain ⟨Ca, n1, c1, c2⟩ := T.ex
      obtain ⟨l, C2, dx, fs, a1, n2, h1, r⟩ := insAt_rep R h0
      rw [n1] at n2
      cases n2
      obtain ⟨w, e1, e2⟩ := r.lookup hl
      exact ⟨.ref l, a1, l, Ca, dx, fs, w, rfl, h1, c1, c2, e1, q w F H R Stp.refl e2⟩
/-- x.f = e, x a name that holds an instance of one's own -/
def mFldPut (i : Nat) (c x : Str) (f : Mo D) : MoS := mThen f fun d ε => match ε[i]? with
  | some (.ib (.ins c' qs)) => if c' = c ∧ qs.length < 900 then some (.nx (ε.set i (.ib (.ins c' (putS x d qs))))) else none
  | some (.od (.ins c' qs)) => if c' = c ∧ qs.length < 900 then some (.nx (ε.set i (.od (.ins c' (putS x d qs))))) else none
  | _ => none
theorem st_fld {i : Nat} {c x : Str} {v : Expr} (T : ClsF X.K c x) (hv : EvD X C W v f) (hp : ∀ tv, PE X v tv → PS X s (sFld X.K (tVar i) tv x)) : StD X C W s (mFldPut i c x f) := by
  obtain ⟨te, p1, s1⟩ := hv
  refine ⟨_, hp _ p1, fun F H σ ε D R q => ?_⟩
  refine s1 F H σ ε _ R ((then_good q).imp (fun d e q1 v F1 H1 R1 st1 r1 => ?_) fun x e z => z)
  obtain ⟨Ca, n1, c1, c2⟩ := T.ex
  cases h0 : e[i]? with
  | none => rw [h0] at q1; exact q1.elim
  | some en =>
    rw [h0] at q1
    cases en with
    | ib b =>
      cases b with
      | ins c' qs =>
        dsimp only at q1
        by_cases hc : c' = c ∧ qs.length < 900
        · rw [if_pos hc] at q1
          obtain ⟨rfl, hl⟩ := hc
          obtain ⟨l, o, a1, b1, k1, r, g1⟩ := R1.ent i _ h0
          cases o with
          | ins C2 dx fs =>
            obtain ⟨n2, r2⟩ := r
            rw [n1] at n2
            cases n2
            have r3 : RepO X.K F1 (.ins Ca dx (putF x v fs)) (.ins c' (putS x d qs)) := ⟨n1, RepQ.putS r1 r2⟩
            have R3 := R1.changeB (o := .ins Ca dx (putF x v fs)) (b1 := .ins c' (putS x d qs)) h0 rfl a1 r3 (.inr ⟨rfl, rfl⟩)
            exact ⟨.ref l, a1, l, Ca, dx, fs, rfl, b1, c1, c2, by rw [RepQ.length r2]; omega, q1 F1 _ σ R3 st1.ff⟩
          | _ => exact r.elim
        · rw [if_neg hc] at q1; exact q1.elim
      | _ => exact q1.elim
    | od b =>
      cases b with
      | ins c' qs =>
        dsimp only at q1
        by_cases hc : c' = c ∧ qs.length < 900
        · rw [if_pos hc] at q1
          obtain ⟨rfl, hl⟩ := hc
          obtain ⟨l, o, a1, b1, k1, r, g1⟩ := R1.ent i _ h0
          cases o with
          | ins C2 dx fs =>
            obtain ⟨n2, r2⟩ := r
            rw [n1] at n2
            cases n2
            have r3 : RepO X.K F1 (.ins Ca dx (putF x v fs)) (.ins c' (putS x d qs)) := ⟨n1, RepQ.putS r1 r2⟩
            have R3 := R1.changeB (o := .ins Ca dx (putF x v fs)) (b1 := .ins c' (putS x d qs)) h0 rfl a1 r3 (.inl ⟨rfl, rfl⟩)
            exact ⟨.ref l, a1, l, Ca, dx, fs, rfl, b1, c1, c2, by rw [RepQ.length r2]; omega, q1 F1 _ σ R3 st1.ff⟩
          | _ => exact r.elim
        · rw [if_neg hc] at q1; exact q1.elim
      | _ => exact q1.elim
    | _ => exact q1.elim
/-! ### o.m(..) and o(..), o data -/
def tMethS (Ca : Addr) (m : Str) (sp : Sp) (E : St → XK) (ta : TE) (t : TA) : TE := fun σ H Q => ta σ H fun x H1 => ∃ a dx fs, x = .ref a ∧ H1 a = some (.ins Ca dx fs) ∧ fs.lookup m = none ∧
  t σ H1 fun vs H2 => sp (x :: vs) H2 Q (E σ)
theorem pe_methS {k : Nat} {Ca fa : Addr} {fd : FuncData} {ps : List Str} {sp : Sp} {E : St → XK} {m : Str} {apos pos : Pos} {e : Expr} {es : List Expr} {ta : TE} {t : TA} {pl : Sem Bool} (he : PE X o ta) (c : Cls X.K Ca) (hm : Meth X.K Ca m fa) (F : FnOk X.prog X.w X.K X.mg X.base (L2.CX X.prog X.w) k fa fd ps sp) (hr : Room k X.A) (hb : Binds X.K fd ps []) (hx : ∀ σ, PassesAt (L2.CX X.prog X.w) X σ (E σ)) (ha : PA X (e :: es) t)
    (hst : starEach (e :: es) X.env = (false, eval e X.env) :: starEach es X.env := by rfl) (hpl : (backTo pos (starEach es X.env)).any (·.1) = false := by rfl)
    (ht : eval (.Call (.Attribute o m apos) (e :: es) [] pos) X.env = (do
      let ov ← eval o X.env
      standAt apos.atName
      let (f, first) ← holding [ov] (getMethod ov m pl)
      callWith pos f first (backTo pos (starEach (e :: es) X.env)) (backToKw pos (keywordEach [] X.env))) := by rfl) :
    PE X (.Call (.Attribute o m apos) (e :: es) [] pos) (tMethS Ca m sp E ta t) := by
  refine ⟨fun pins s σ H Q I h => ?_⟩
  refine PySem.W.methodCall_KW (pl := pl) (thn (he.run pins s σ H _ I h) fun u s1 ⟨x, H1, I1, rx, a, dx, fs, ex, ea, l, q⟩ => ?_) ht
  subst ex
  obtain rfl : u = Value.ref a := rx
  refine getmeth_ok I1 ea c hm l ?_
  refine PySem.W.callWith_K (first := [.ref a]) (h₀ := X.base) I.ok.mod.kin hm.kp (thn (ha.run pos pins s1 σ H1 _ I1 q) fun us s2 ⟨vs, H2, I2, r, q2⟩ => ⟨I2.kIn, ?_⟩) hst hpl
  exact run_fnS (us := .ref a :: us) (vs := .ref a :: vs) F hr hb (hx σ) I2 (.cons rfl r) q2
theorem pe_methS0 {k : Nat} {Ca fa : Addr} {fd : FuncData} {ps : List Str} {sp : Sp} {E : St → XK} {m : Str} {apos pos : Pos} {ta : TE} {pl : Sem Bool} (he : PE X o ta) (c : Cls X.K Ca) (hm : Meth X.K Ca m fa) (F : FnOk X.prog X.w X.K X.mg X.base (L2.CX X.prog X.w) k fa fd ps sp) (hr : Room k X.A) (hb : Binds X.K fd ps []) (hx : ∀ σ, PassesAt (L2.CX X.prog X.w) X σ (E σ))
    (ht : eval (.Call (.Attribute o m apos) [] [] pos) X.env = (do
      let ov ← eval o X.env
      standAt apos.atName
      let (f, first) ← holding [ov] (getMethod ov m pl)
      callWith pos f first (backTo pos (starEach [] X.env)) (backToKw pos (keywordEach [] X.env))) := by rfl) :
    PE X (.Call (.Attribute o m apos) [] [] pos) (tMethS Ca m sp E ta tNil) := by
  refine ⟨fun pins s σ H Q I h => ?_⟩
  refine PySem.W.methodCall_KW (pl := pl) (thn (he.run pins s σ H _ I h) fun u s1 ⟨x, H1, I1, rx, a, dx, fs, ex, ea, l, q⟩ => ?_) ht
  subst ex
  obtain rfl : u = Value.ref a := rx
  refine getmeth_ok I1 ea c hm l ?_
  exact PySem.W.callWith_K0 (first := [.ref a]) I1.kIn hm.kp (run_fnS (us := [.ref a]) (vs := [.ref a]) F hr hb (hx σ) I1 (.cons rfl .nil) q)
def tCallOS (Ca : Addr) (sp : Sp) (E : St → XK) (tf : TE) (t : TA) : TE := fun σ H Q => tf σ H fun y H1 => ∃ a, y = V.ref a ∧ t σ H1 fun vs H2 => (∃ dx fs, H2 a = some (.ins Ca dx fs)) ∧ sp (V.ref a :: vs) H2 Q (E σ)
theorem pe_callOS {k : Nat} {Ca g : Addr} {fd : FuncData} {ps : List Str} {sp : Sp} {E : St → XK} {fe e : Expr} {es : List Expr} {tf : TE} {t : TA} {pos : Pos} (hf : PE X fe tf) (c : StX.CallO X.K Ca g) (F : FnOk X.prog X.w X.K X.mg X.base (L2.CX X.prog X.w) k g fd ps sp) (hr : Room k X.A) (hb : Binds X.K fd ps []) (hx : ∀ σ, PassesAt (L2.CX X.prog X.w) X σ (E σ)) (ha : PA X (e :: es) t)
    (ht : eval (.Call fe (e :: es) [] pos) X.env = (do callWith pos (← eval fe X.env) [] (backTo pos (starEach (e :: es) X.env)) (backToKw pos (keywordEach [] X.env))) := by rfl)
    (he : starEach (e :: es) X.env = (false, eval e X.env) :: starEach es X.env := by rfl) (hpl : (backTo pos (starEach es X.env)).any (·.1) = false := by rfl) : PE X (.Call fe (e :: es) [] pos) (tCallOS Ca sp E tf t) := by
  refine ⟨fun pins s σ H Q I h => ?_⟩
  refine PyProof.Rows.Call_ (thn (hf.run pins s σ H _ I h) fun u s1 ⟨y, H1, I1, ry, a, ey, q⟩ => ?_) ht
  subst ey
  obtain rfl : u = Value.ref a := ry
  refine StX.callO_with (thn (ha.run pos pins s1 σ H1 _ I1 q) fun us s2 ⟨vs, H2, I2, r, ⟨dx, fs, hi⟩, q2⟩ => ?_) he hpl
  obtain ⟨ox, od, J, hd⟩ := StX.insC_at (C := Ca) I2 (.inr ⟨dx, fs, hi⟩)
  refine ⟨⟨Ca, ox, od, J, hd⟩, ?_⟩
  have hl : (Value.ref a :: us).length = ps.length := by
    have r2 : Vals (V.ref a :: vs) (Value.ref a :: us) := .cons rfl r
    rw [← r2.length]; exact F.len _ _ _ _ q2
  have bb := hb s2 (Value.ref a :: us) I2.kIn (by rw [List.append_nil]; exact hl)
  rw [List.append_nil] at bb
  refine wpAny_call (PySem.W.kco_code I2.kIn J hd c.at_ c.fn c.fi (codeAny_mono (F.run X.A X.stack s2 H2 ⟨Value.ref a :: us, []⟩ (Value.ref a :: us) (V.ref a :: vs) Q (E σ) hr I2.env0 bb (.cons rfl r) q2) fun r s' hq => ?_))
  cases r with
  | error e => exact hx σ pins H2 s2 e s' I2 hq
  | ok fl =>
    cases fl with
    | ret u => exact I2.after hq
    | next => exact False.elim hq
    | brk => exact False.elim hq
    | cont => exact False.elim hq
/-- what is needed of a method m of the class c, n arguments with self -/
structure MethOk (P : Program) (w : World) (K : PySem.W.Frag) (mg : Str → Option Value) (base : Heap) (k n : Nat) (c m : Str) (mm : List D → Option Ans) (Ca fa : Addr) (fd : FuncData) (ps : List Str) : Prop where
  ns : PySem.W.nsIn K mainGlobals c = some (some (.ref Ca))
  cl : Cls K Ca
  me : Meth K Ca m fa
  fn : FnOk P w K mg base (L2.CX P w) k fa fd ps (SpP K n mm)
  bd : Binds K fd ps []
def mMeth (c m : Str) (n : Nat) (mm : List D → Option Ans) (fo : Mo D) (fa : Mo (List D)) : Mo D := bnd fo fun d => match (partsOf c d).bind fun qs => if qs.lookup m = none then some qs else none with
  | some _ => bnd fa fun ds => if ds.length + 1 = n then ansM (mm (d :: ds)) else lft none
  | none => lft none
def mCallO (c : Str) (n : Nat) (mm : List D → Option Ans) (fo : Mo D) (fa : Mo (List D)) : Mo D := bnd fo fun d => match partsOf c d with
  | some _ => bnd fa fun ds => if ds.length + 1 = n then ansM (mm (d :: ds)) else lft none
  | none => lft none
theorem sp_go {K : PySem.W.Frag} {n : Nat} {mm : List D → Option Ans} {σ : St} {ε : List Ent} {F H F1 H1 : Hp} {Q : VK} {v : V} {d : D} {vs : List V} {ds : List D} {e2 : List Ent}
    (q1 : Good ((if ds.length + 1 = n then ansM (mm (d :: ds)) else lft none) e2) (OkE K C F H σ ε Q) (ExP K C W F H σ ε)) (R1 : Rep K C F1 H1 σ e2) (st1 : Stp σ ε e2 F H F1 H1) (r0 : RepD K F1 v d) (r1 : RepL K F1 vs ds) : SpP K n mm (v :: vs) H1 Q (WE W σ) := by
  by_cases hl : ds.length + 1 = n
  · rw [if_pos hl] at q1
    refine ⟨by rw [List.length_cons, r1.length]; exact hl, F1, d :: ds, R1.fh, .cons r0 r1, ?_⟩
    unfold ansM at q1
    cases hm : mm (d :: ds) with
    | none => rw [hm] at q1; exact q1.elim
    | some an =>
      rw [hm] at q1
      cases an with
      | ret d => exact fun v F' H' st r => q1 v F' H' (R1.step st) (st1.trans st.stp) r
      | exc x => exact fun c od F' H' st r => q1 c od F' H' (R1.step st) (st1.trans st.stp) r
  · rw [if_neg hl] at q1; exact q1.elim
theorem ev_meth {k n : Nat} {c m : Str} {mm : List D → Option Ans} {Ca fa : Addr} {fd : FuncData} {ps : List Str} {apos pos : Pos} {e : Expr} {es : List Expr} {fs : Mo (List D)} (T : MethOk X.prog X.w X.K X.mg X.base k n c m mm Ca fa fd ps) (tk : Takes X W) (hr : Room k X.A) (ho : EvD X C W o f) (ha : EaD X C W (e :: es) fs)
    (hst : starEach (e :: es) X.env = (false, eval e X.env) :: starEach es X.env := by rfl) (hpl : (backTo pos (starEach es X.env)).any (·.1) = false := by rfl) {pl : Sem Bool}
    (ht : eval (.Call (.Attribute o m apos) (e :: es) [] pos) X.env = (do
      let ov ← eval o X.env
      standAt apos.atName
      let (f, first) ← holding [ov] (getMethod ov m pl)
      callWith pos f first (backTo pos (starEach (e :: es) X.env)) (backToKw pos (keywordEach [] X.env))) := by rfl) :
    EvD X C W (.Call (.Attribute o m apos) (e :: es) [] pos) (mMeth c m n mm f fs) := by
  obtain ⟨to, p0, s0⟩ := ho
  obtain ⟨ta, p1, s1⟩ := ha
  refine ⟨_, pe_methS (E := WE W) p0 T.cl T.me T.fn hr T.bd (fun σ => passAt tk σ) p1 hst hpl ht, fun F H σ ε Q R q => ?_⟩
  refine s0 F H σ ε _ R (q.bind.imp (fun d e q1 v F1 H1 R1 st1 r1 => ?_) fun x e z => z)
  cases hq : partsOf c d with
  | none => rw [hq] at q1; exact q1.elim
  | some qs =>
    rw [hq] at q1
    simp only [Option.bind_some] at q1
    by_cases hl : qs.lookup m = none
    · rw [if_pos hl] at q1
      dsimp only at q1
      obtain ⟨p, C2, dx, fs2, rfl, n2, h1, r⟩ := parts_rep r1 hq
      rw [T.ns] at n2
      cases n2
      refine ⟨p, dx, fs2, rfl, R1.fh _ _ h1, r.nolook hl, ?_⟩
      refine s1 F1 H1 σ e _ R1 (q1.bind.imp (fun ds e2 q2 vs F2 H2 R2 st2 r2 => ?_) fun x e z => z.imp st1)
      exact sp_go q2 R2 (st1.trans st2) (r1.mono st2.ff) r2
    · rw [if_neg hl] at q1; exact q1.elim
theorem ev_meth0 {k : Nat} {c m : Str} {mm : List D → Option Ans} {Ca fa : Addr} {fd : FuncData} {ps : List Str} {apos pos : Pos} (T : MethOk X.prog X.w X.K X.mg X.base k 1 c m mm Ca fa fd ps) (tk : Takes X W) (hr : Room k X.A) (ho : EvD X C W o f) {pl : Sem Bool}
    (ht : eval (.Call (.Attribute o m apos) [] [] pos) X.env = (do
      let ov ← eval o X.env
      standAt apos.atName
      let (f, first) ← holding [ov] (getMethod ov m pl)
      callWith pos f first (backTo pos (starEach [] X.env)) (backToKw pos (keywordEach [] X.env))) := by rfl) :
    EvD X C W (.Call (.Attribute o m apos) [] [] pos) (mMeth c m 1 mm f (pur [])) := by
  obtain ⟨to, p0, s0⟩ := ho
  refine ⟨_, pe_methS0 (E := WE W) p0 T.cl T.me T.fn hr T.bd (fun σ => passAt tk σ) ht, fun F H σ ε Q R q => ?_⟩
  refine s0 F H σ ε _ R (q.bind.imp (fun d e q1 v F1 H1 R1 st1 r1 => ?_) fun x e z => z)
  cases hq : partsOf c d with
  | none => rw [hq] at q1; exact q1.elim
  | some qs =>
    rw [hq] at q1
    simp only [Option.bind_some] at q1
    by_cases hl : qs.lookup m = none
    · rw [if_pos hl] at q1
      dsimp only at q1
      obtain ⟨p, C2, dx, fs2, rfl, n2, h1, r⟩ := parts_rep r1 hq
      rw [T.ns] at n2
      cases n2
      exact ⟨p, dx, fs2, rfl, R1.fh _ _ h1, r.nolook hl, sp_go (vs := []) (ds := []) q1 R1 st1 r1 .nil⟩
    · rw [if_neg hl] at q1; exact q1.elim
theorem ev_callO {k n : Nat} {c : Str} {mm : List D → Option Ans} {Ca fa : Addr} {fd : FuncData} {ps : List Str} {fe e : Expr} {es : List Expr} {fs : Mo (List D)} {pos : Pos} (hn : PySem.W.nsIn X.K mainGlobals c = some (some (.ref Ca))) (co : StX.CallO X.K Ca fa) (F : FnOk X.prog X.w X.K X.mg X.base (L2.CX X.prog X.w) k fa fd ps (SpP X.K n mm)) (hb : Binds X.K fd ps []) (tk : Takes X W) (hr : Room k X.A) (ho : EvD X C W fe f) (ha : EaD X C W (e :: es) fs)
    (ht : eval (.Call fe (e :: es) [] pos) X.env = (do callWith pos (← eval fe X.env) [] (backTo pos (starEach (e :: es) X.env)) (backToKw pos (keywordEach [] X.env))) := by rfl)
    (he : starEach (e :: es) X.env = (false, eval e X.env) :: starEach es X.env := by rfl) (hpl : (backTo pos (starEach es X.env)).any (·.1) = false := by rfl) : EvD X C W (.Call fe (e :: es) [] pos) (mCallO c n mm f fs) := by
  obtain ⟨to, p0, s0⟩ := ho
  obtain ⟨ta, p1, s1⟩ := ha
  refine ⟨_, pe_callOS (E := WE W) p0 co F hr hb (fun σ => passAt tk σ) p1 ht he hpl, fun F H σ ε Q R q => ?_⟩
  refine s0 F H σ ε _ R (q.bind.imp (fun d e q1 v F1 H1 R1 st1 r1 => ?_) fun x e z => z)
  cases hq : partsOf c d with
  | none => rw [hq] at q1; exact q1.elim
  | some qs =>
    rw [hq] at q1
    dsimp only at q1
    obtain ⟨p, C2, dx, fs2, rfl, n2, h1, r⟩ := parts_rep r1 hq
    rw [hn] at n2
    cases n2
    refine ⟨p, rfl, ?_⟩
    refine s1 F1 H1 σ e _ R1 (q1.bind.imp (fun ds e2 q2 vs F2 H2 R2 st2 r2 => ?_) fun x e z => z.imp st1)
    exact ⟨⟨dx, fs2, R2.fh _ _ (st2.ff _ _ h1)⟩, sp_go q2 R2 (st1.trans st2) (r1.mono st2.ff) r2⟩
end
end DL

set_option Elab.async false
set_option linter.all false
set_option maxRecDepth 100000
namespace DL
open PySem PySem.Spec L2
/-! ### C.m(..), m a staticmethod -/
structure StatC (K : PySem.W.Frag) (Ca : Addr) (mc : Value) (m : Str) (p g : Addr) : Prop where
  rd : ClX.CRead K Ca mc
  at_ : PySem.W.findCls K (.ref Ca) mc m = some (.get (.builtin "staticmethod.__get__") (.ref p) .none (.ref Ca))
  rc : ∃ rest, PySem.W.recIn K p "staticmethod" = some (.ref g :: rest)
  kp : PySem.W.keepIn K (.ref g) = true
def tStat (sp : Sp) (E : St → XK) (t : TA) : TE := fun σ H Q => t σ H fun vs H1 => sp vs H1 Q (E σ)
section
variable {X : Cx} {C : Ct} {W : WX} {a b e o : Expr} {pos apos : Pos} {f g : Mo D} {s : Stmt}
theorem getmethsm_ok {pins : List (Addr × Obj)} {σ : St} {H : Hp} {s : Shared} {Ca p g : Addr} {mc : Value} {m : Str} {A : Around} {E : Value → Shared → Prop} {pl : Sem Bool} {Q : Value × List Value → Shared → Prop} (I : Inv X pins σ H s) (k : StatC X.K Ca mc m p g)
    (h : ∀ s', Inv X pins σ H s' → Q (.ref g, []) s') : wpAny (model X.prog X.w) A (getMethod (.ref Ca) m pl) Q E s := by
  obtain ⟨rest, hp⟩ := k.rc
  refine PySem.W.method_cls I.kIn k.rd.ga (PySem.W.cls_bind I.kIn k.rd.rd k.at_ ?_)
  refine wpAny_call (PySem.W.sm_get (s := { s with toks := s.toks + 1 }) I.kIn hp (PySem.W.handed_on rfl ?_))
  exact h _ (I.tok _)
theorem pe_stat0 {k : Nat} {Ca p g : Addr} {mc : Value} {fd : FuncData} {ps : List Str} {sp : Sp} {E : St → XK} {m : Str} {pl : Sem Bool} (he : PE X o (tC (.ref Ca))) (c : StatC X.K Ca mc m p g) (F : FnOk X.prog X.w X.K X.mg X.base (L2.CX X.prog X.w) k g fd ps sp) (hr : Room k X.A) (hb : Binds X.K fd ps []) (hx : ∀ σ, PassesAt (L2.CX X.prog X.w) X σ (E σ))
    (ht : eval (.Call (.Attribute o m apos) [] [] pos) X.env = (do
      let ov ← eval o X.env
      standAt apos.atName
      let (f, first) ← holding [ov] (getMethod ov m pl)
      callWith pos f first (backTo pos (starEach [] X.env)) (backToKw pos (keywordEach [] X.env))) := by rfl) :
    PE X (.Call (.Attribute o m apos) [] [] pos) (tStat sp E tNil) := by
  refine ⟨fun pins s σ H Q I h => ?_⟩
  refine PySem.W.methodCall_KW (pl := pl) (thn (he.run pins s σ H (fun x H1 => x = .ref Ca ∧ H1 = H) I ⟨rfl, rfl⟩) fun u s1 ⟨x, H1, I1, rx, ex, eh⟩ => ?_) ht
  subst ex eh
  obtain rfl : u = Value.ref Ca := rx
  refine getmethsm_ok I1 c fun s2 I2 => ?_
  exact PySem.W.callWith_K0 (first := []) I2.kIn c.kp (run_fnS (us := []) (vs := []) F hr hb (hx σ) I2 .nil h)
theorem pe_stat {k : Nat} {Ca p g : Addr} {mc : Value} {fd : FuncData} {ps : List Str} {sp : Sp} {E : St → XK} {m : Str} {e : Expr} {es : List Expr} {t : TA} {pl : Sem Bool} (he : PE X o (tC (.ref Ca))) (c : StatC X.K Ca mc m p g) (F : FnOk X.prog X.w X.K X.mg X.base (L2.CX X.prog X.w) k g fd ps sp) (hr : Room k X.A) (hb : Binds X.K fd ps []) (hx : ∀ σ, PassesAt (L2.CX X.prog X.w) X σ (E σ)) (ha : PA X (e :: es) t)
    (hst : starEach (e :: es) X.env = (false, eval e X.env) :: starEach es X.env := by rfl) (hpl : (backTo pos (starEach es X.env)).any (·.1) = false := by rfl)
    (ht : eval (.Call (.Attribute o m apos) (e :: es) [] pos) X.env = (do
      let ov ← eval o X.env
      standAt apos.atName
      let (f, first) ← holding [ov] (getMethod ov m pl)
      callWith pos f first (backTo pos (starEach (e :: es) X.env)) (backToKw pos (keywordEach [] X.env))) := by rfl) :
    PE X (.Call (.Attribute o m apos) (e :: es) [] pos) (tStat sp E t) := by
  refine ⟨fun pins s σ H Q I h => ?_⟩
  refine PySem.W.methodCall_KW (pl := pl) (thn (he.run pins s σ H (fun x H1 => x = .ref Ca ∧ H1 = H) I ⟨rfl, rfl⟩) fun u s1 ⟨x, H1, I1, rx, ex, eh⟩ => ?_) ht
  subst ex eh
  obtain rfl : u = Value.ref Ca := rx
  refine getmethsm_ok I1 c fun s2 I2 => ?_
  refine PySem.W.callWith_K (first := []) (h₀ := X.base) I.ok.mod.kin c.kp (thn (ha.run pos pins s2 σ _ _ I2 h) fun us s3 ⟨vs, H2, I3, r, q2⟩ => ⟨I3.kIn, ?_⟩) hst hpl
  exact run_fnS F hr hb (hx σ) I3 r q2
theorem ev_stat0 {k : Nat} {Ca p g : Addr} {mc : Value} {fd : FuncData} {ps : List Str} {m : Str} {mm : List D → Option Ans} {pl : Sem Bool} (he : PE X o (tC (.ref Ca))) (c : StatC X.K Ca mc m p g) (F : FnOk X.prog X.w X.K X.mg X.base (L2.CX X.prog X.w) k g fd ps (SpP X.K 0 mm)) (tk : Takes X W) (hr : Room k X.A) (hb : Binds X.K fd ps [])
    (ht : eval (.Call (.Attribute o m apos) [] [] pos) X.env = (do
      let ov ← eval o X.env
      standAt apos.atName
      let (f, first) ← holding [ov] (getMethod ov m pl)
      callWith pos f first (backTo pos (starEach [] X.env)) (backToKw pos (keywordEach [] X.env))) := by rfl) :
    EvD X C W (.Call (.Attribute o m apos) [] [] pos) (mFn 0 mm (pur [])) := by
  refine ⟨_, pe_stat0 (E := WE W) he c F hr hb (fun σ => passAt tk σ) ht, fun F0 H σ ε Q R q => ?_⟩
  have q1 : Good (ansM (mm []) ε) _ _ := q
  refine ⟨rfl, F0, [], R.fh, .nil, ?_⟩
  unfold ansM at q1
  cases hm2 : mm [] with
  | none => rw [hm2] at q1; exact q1.elim
  | some an =>
    rw [hm2] at q1
    cases an with
    | ret d => exact fun v F' H' st r => q1 v F' H' (R.step st) st.stp r
    | exc x => exact fun c od F' H' st r => q1 c od F' H' (R.step st) st.stp r
theorem ev_stat {k n : Nat} {Ca p g : Addr} {mc : Value} {fd : FuncData} {ps : List Str} {m : Str} {mm : List D → Option Ans} {e : Expr} {es : List Expr} {fs : Mo (List D)} {pl : Sem Bool} (he : PE X o (tC (.ref Ca))) (c : StatC X.K Ca mc m p g) (F : FnOk X.prog X.w X.K X.mg X.base (L2.CX X.prog X.w) k g fd ps (SpP X.K n mm)) (tk : Takes X W) (hr : Room k X.A) (hb : Binds X.K fd ps []) (ha : EaD X C W (e :: es) fs)
    (hst : starEach (e :: es) X.env = (false, eval e X.env) :: starEach es X.env := by rfl) (hpl : (backTo pos (starEach es X.env)).any (·.1) = false := by rfl)
    (ht : eval (.Call (.Attribute o m apos) (e :: es) [] pos) X.env = (do
      let ov ← eval o X.env
      standAt apos.atName
      let (f, first) ← holding [ov] (getMethod ov m pl)
      callWith pos f first (backTo pos (starEach (e :: es) X.env)) (backToKw pos (keywordEach [] X.env))) := by rfl) :
    EvD X C W (.Call (.Attribute o m apos) (e :: es) [] pos) (mFn n mm fs) :=
  ev_fn ha fun _ pa => ⟨fun pins s σ H Q I h => (pe_stat (E := WE W) he c F hr hb (fun σ => passAt tk σ) pa hst hpl ht).run pins s σ H Q I h⟩
/-! ### zip of two lists or two tuples -/
def zipD : List D → Option (List D)
  | [.tup a, .tup b] => some ((a.zip b).map fun p => .tup [p.1, p.2])
  | [.lst a, .lst b] => some ((a.zip b).map fun p => .tup [p.1, p.2])
  | _ => none
theorem zip_at {α β : Type} {as : List α} {bs : List β} {i : Nat} {x : α} {y : β} (h1 : as[i]? = some x) (h2 : bs[i]? = some y) : (as.zip bs)[i]? = some (x, y) := by
  rw [List.getElem?_zip_eq_some]; exact ⟨h1, h2⟩
theorem it_zipT {K : PySem.W.Frag} {F : Hp} {a b : Addr} {xs ys : List V} {ds es : List D} (h : SqT K F a xs) (r : RepL K F xs ds) (h' : SqT K F b ys) (r' : RepL K F ys es) : ItOk K F (RZ.ItzT K a b) ((ds.zip es).map fun p => .tup [p.1, p.2]) where
  go := fun F' H' i s1 s2 hi => by
    rw [List.length_map, List.length_zip] at hi
    have hx : i < xs.length := by rw [r.length]; omega
    have hy : i < ys.length := by rw [r'.length]; omega
    exact ⟨xs, ys, xs[i], ys[i], seqT (s1.trans s2) h, seqT (s1.trans s2) h', List.getElem?_eq_getElem hx, List.getElem?_eq_getElem hy⟩
  yl := fun F' H' i x H2 s1 s2 hi hyl => by
    obtain ⟨T, x1, y1, rfl, hn, rfl, e1, e2⟩ := hyl
    have hx := e1 xs (seqT (s1.trans s2) h)
    have hy := e2 ys (seqT (s1.trans s2) h')
    obtain ⟨d, h1, h2⟩ := r.getV hx
    obtain ⟨d', h1', h2'⟩ := r'.getV hy
    have st := Ste.laid (o := .tup [x1, y1]) s2 hn
    refine ⟨.tup [d, d'], _, ?_, st, .tup (.inl (.inl upd_same)) (.cons ((h2.mono s1).mono st.ff) (.cons ((h2'.mono s1).mono st.ff) .nil))⟩
    rw [List.getElem?_map, zip_at h1 h1']
    rfl
  st := fun F' H' i s1 s2 hi => by
    rw [List.length_map, List.length_zip] at hi
    refine ⟨xs, ys, seqT (s1.trans s2) h, seqT (s1.trans s2) h', ?_⟩
    rw [r.length, r'.length]
    omega
theorem it_zip {K : PySem.W.Frag} {F : Hp} {a b : Addr} {xs ys : List V} {ds es : List D} (h : SqL K F a xs) (r : RepL K F xs ds) (h' : SqL K F b ys) (r' : RepL K F ys es) : ItOk K F (Itz K a b) ((ds.zip es).map fun p => .tup [p.1, p.2]) where
  go := fun F' H' i s1 s2 hi => by
    rw [List.length_map, List.length_zip] at hi
    have hx : i < xs.length := by rw [r.length]; omega
    have hy : i < ys.length := by rw [r'.length]; omega
    exact ⟨xs, ys, xs[i], ys[i], Same.seq (s1.trans s2) h, Same.seq (s1.trans s2) h', List.getElem?_eq_getElem hx, List.getElem?_eq_getElem hy⟩
  yl := fun F' H' i x H2 s1 s2 hi hyl => by
    obtain ⟨T, x1, y1, rfl, hn, rfl, e1, e2⟩ := hyl
    have hx := e1 xs (Same.seq (s1.trans s2) h)
    have hy := e2 ys (Same.seq (s1.trans s2) h')
    obtain ⟨d, h1, h2⟩ := r.getV hx
    obtain ⟨d', h1', h2'⟩ := r'.getV hy
    have st := Ste.laid (o := .tup [x1, y1]) s2 hn
    refine ⟨.tup [d, d'], _, ?_, st, .tup (.inl (.inl upd_same)) (.cons ((h2.mono s1).mono st.ff) (.cons ((h2'.mono s1).mono st.ff) .nil))⟩
    rw [List.getElem?_map, zip_at h1 h1']
    rfl
  st := fun F' H' i s1 s2 hi => by
    rw [List.length_map, List.length_zip] at hi
    refine ⟨xs, ys, Same.seq (s1.trans s2) h, Same.seq (s1.trans s2) h', ?_⟩
    rw [r.length, r'.length]
    omega
theorem ei_zip {tg e : Expr} {es : List Expr} {fs : Mo (List D)} (ha : EaD X C W es fs) (hp : ∀ ta, PA X es ta → PI X tg e (RZ.iZipA X.K ta)) : EiD X C W tg e (bnd fs fun ds => lft (zipD ds)) := by
  obtain ⟨ta, p1, s1⟩ := ha
  refine ⟨_, hp _ p1, fun F H σ ε R R0 q => ?_⟩
  refine s1 F H σ ε _ R0 (q.bind.imp (fun ds e q1 vs F1 H1 R1 st1 r1 => ?_) fun x e z => z)
  unfold lft at q1
  cases hz : zipD ds with
  | none => rw [hz] at q1; exact q1.elim
  | some zs =>
    rw [hz] at q1
    unfold zipD at hz
    split at hz
    · cases hz
      cases r1 with
      | cons ra rb => cases rb with
        | cons rb rc =>
          cases rc
          obtain ⟨p, xs, rfl, h, r⟩ := rep_tup ra
          obtain ⟨p', ys, rfl, h', r'⟩ := rep_tup rb
          exact ⟨p, p', xs, ys, rfl, .inr ⟨seqT R1.fh h, seqT R1.fh h', q1 _ F1 H1 R1 st1 (it_zipT h r h' r')⟩⟩
    · cases hz
      cases r1 with
      | cons ra rb => cases rb with
        | cons rb rc =>
          cases rc
          obtain ⟨p, xs, rfl, h, r⟩ := rep_seqs ra
          obtain ⟨p', ys, rfl, h', r'⟩ := rep_seqs rb
          exact ⟨p, p', xs, ys, rfl, .inl ⟨Same.seq R1.fh h, Same.seq R1.fh h', q1 _ F1 H1 R1 st1 (it_zip h r h' r')⟩⟩
    · cases hz
/-! ### the target ((a, b), (c, d)) -/
def gdTwo (i j k l : Nat) : Tg := ⟨[i, j, k, l], fun d => match d with
  | .tup [.tup [a, b], .tup [c, d]] => some [a, b, c, d]
  | _ => none⟩
theorem sg_two {K : PySem.W.Frag} {i j k l : Nat} : SdG K (gTup K 2 (gCons (gTup K 2 (gNames [i, j])) (gCons (gTup K 2 (gNames [k, l])) gNil))) (gdTwo i j k l) := fun F H σ v d ds Q s r e q => by
  unfold gdTwo at e
  dsimp only at e
  split at e
  · cases e
    obtain ⟨p, xs, rfl, h, r2⟩ := rep_tup r
    cases r2 with
    | cons ra rb => cases rb with
      | cons rb rc =>
        cases rc
        obtain ⟨p1, x1, rfl, h1, r3⟩ := rep_tup ra
        obtain ⟨p2, x2, rfl, h2, r4⟩ := rep_tup rb
        cases r3 with
        | cons ca cb => cases cb with
          | cons cb cc =>
            cases cc
            cases r4 with
            | cons da db => cases db with
              | cons db dc =>
                cases dc
                refine ⟨p, _, rfl, seqT s h, rfl, ?_⟩
                refine ⟨_, _, rfl, ?_⟩
                refine ⟨p1, _, rfl, seqT s h1, rfl, ?_⟩
                refine gNames_run rfl ?_
                refine ⟨_, _, rfl, ?_⟩
                refine ⟨p2, _, rfl, seqT s h2, rfl, ?_⟩
                refine gNames_run rfl ?_
                exact ⟨rfl, q [_, _, _, _] (.cons ca (.cons cb (.cons da (.cons db .nil))))⟩
  · cases e
/-! ### any, all of a list of truth values -/
def boolsOf : List D → Option (List Bool)
  | [] => some []
  | .bl b :: r => (boolsOf r).map fun q => b :: q
  | _ => none
theorem bools_rep {K : PySem.W.Frag} {F : Hp} : ∀ {vs : List V} {ds : List D} {bs : List Bool}, RepL K F vs ds → boolsOf ds = some bs → vs = bs.map V.bl
  | _, _, bs, .nil, e => by cases e; rfl
  | _, d :: r, bs, .cons h t, e => by
    cases d with
    | bl b =>
      simp only [boolsOf, Option.map_eq_some_iff] at e
      obtain ⟨q, e1, rfl⟩ := e
      rw [rep_bl h, bools_rep t e1]; rfl
    | _ => simp [boolsOf] at e
def gAny : D → Option D
  | .lst ds => (boolsOf ds).map fun bs => .bl (bs.any id)
  | _ => none
def gAll : D → Option D
  | .lst ds => (boolsOf ds).map fun bs => .bl (bs.all id)
  | _ => none
theorem vc_any {K : PySem.W.Frag} : VCall K (rAny K) (gOne gAny) := by
  intro F H xs ds c Q s r hg q
  obtain ⟨x, d, rfl, rfl, rd, hd⟩ := one_of r hg
  cases d with
  | lst es =>
    simp only [gAny, Option.map_eq_some_iff] at hd
    obtain ⟨bs, e1, rfl⟩ := hd
    obtain ⟨p, ys, rfl, h, r2⟩ := rep_seqs rd
    rw [bools_rep r2 e1] at h
    exact ⟨p, bs, rfl, Same.seq s h, q _ F H (Ste.refl s) (.bl _)⟩
  | _ => cases hd
theorem vc_all {K : PySem.W.Frag} : VCall K (rAll K) (gOne gAll) := by
  intro F H xs ds c Q s r hg q
  obtain ⟨x, d, rfl, rfl, rd, hd⟩ := one_of r hg
  cases d with
  | lst es =>
    simp only [gAll, Option.map_eq_some_iff] at hd
    obtain ⟨bs, e1, rfl⟩ := hd
    obtain ⟨p, ys, rfl, h, r2⟩ := rep_seqs rd
    rw [bools_rep r2 e1] at h
    exact ⟨p, bs, rfl, Same.seq s h, q _ F H (Ste.refl s) (.bl _)⟩
  | _ => cases hd
end
end DL

set_option Elab.async false
set_option linter.all false
set_option maxRecDepth 100000
namespace DL
open PySem PySem.Spec L2
section
variable {X : Cx} {C : Ct} {W : WX} {a b e o : Expr} {pos apos : Pos} {f g : Mo D} {s : Stmt}
/-! ### xs.extend(e), e a new list -/
def mExt (i : Nat) (f : Mo D) : MoS := fun ε0 => match (ε0[i]?).bind Ent.get with
  | none => none
  | some _ => mThen f (fun d ε => match ε[i]?, d with
    | some e, .lst ds => (match e.get with
      | none => none
      | some ps => if ps.length + ds.length ≤ 1000000 then some (.nx (ε.set i (e.put (ps ++ ds)))) else none)
    | _, _ => none) ε0
theorem st_ext {i : Nat} (hp : ∀ te, PE X e te → PS X s (tDrop (tBM X.K "list" rExtend (tVar i) (tCons te tNil)))) (he : EvD X C W e f) : StD X C W s (mExt i f) := by
  obtain ⟨te, p, sd⟩ := he
  refine ⟨_, hp _ p, fun F H σ ε D R q => ?_⟩
  unfold mExt at q
  cases h0 : ε[i]? with
  | none => rw [h0] at q; exact q.elim
  | some e0 =>
    cases h1 : e0.get with
    | none => rw [h0] at q; simp only [Option.bind_some, h1] at q; exact q.elim
    | some p0 =>
      rw [h0] at q
      simp only [Option.bind_some, h1] at q
      obtain ⟨l, us0, a0, b0, _⟩ := R.at h0 h1
      refine ⟨.ref l, a0, .inl ⟨rfl, us0, .inl (.inl b0)⟩, ?_⟩
      refine sd F H σ ε _ R ((then_good q).imp (fun d e q1 v F1 H1 R1 st1 r1 => ?_) fun x e z => z)
      cases h2 : e[i]? with
      | none => rw [h2] at q1; exact q1.elim
      | some e1 =>
        rw [h2] at q1
        cases d with
        | lst ds =>
          dsimp only at q1
          cases h3 : e1.get with
          | none => rw [h3] at q1; exact q1.elim
          | some ps =>
            rw [h3] at q1
            dsimp only at q1
            by_cases hz : ps.length + ds.length ≤ 1000000
            · rw [if_pos hz] at q1
              obtain ⟨l2, us, a, b, c, d', hm⟩ := R1.at h2 h3
              rw [a0] at a
              cases a
              obtain ⟨p2, zs, rfl, hz2, r2⟩ := rep_lst r1
              obtain ⟨R2, st2⟩ := R1.callQ (F' := F1) (H' := upd H1 l (.lst (us ++ zs))) (ps' := ps ++ ds) h2 h3 a0 (Same.refl F1) (fun x o q => by
                rw [upd_ne (fun z => by rw [z, c] at q; cases q)]; exact R1.fh x o q) (fun x o q n => by rw [upd_ne n]; exact q) (fun _ _ => rfl) upd_same (d'.append r2)
              exact ⟨l, p2, us, zs, rfl, rfl, b, R1.fh _ _ hz2, by rw [d'.length, r2.length]; exact Nat.le_trans hz (by decide), q1 F1 _ σ R2 st1.ff⟩
            · rw [if_neg hz] at q1; exact q1.elim
        | _ => exact q1.elim
/-! ### [x for x in d], d a dict of one's own -/
def keyAsD : Key → D
  | .inl i => .int i
  | .inr x => .str x
def mKeys (i j : Nat) : Mo (List D) := fun ε => match ε[i]? with
  | some (.od (.dk qs)) => if qs.length ≤ 1000000 ∧ j < ε.length then some (.ok (qs.map fun q => keyAsD q.1) ε) else none
  | _ => none
theorem keys_rep {K : PySem.W.Frag} {F : Hp} : ∀ {kvs : List (Key × V)} {qs : List (Key × D)}, RepQ K F kvs qs → RepL K F (kvs.map fun kv => kV kv.1) (qs.map fun q => keyAsD q.1)
  | [], [], _ => .nil
  | (x, v) :: r, (y, d) :: t, h => by
    obtain ⟨h1, _, h3⟩ := h
    subst h1
    refine .cons ?_ (keys_rep h3)
    cases x with
    | inl i => exact .int i
    | inr z => exact .str z
  | [], _ :: _, h => h.elim
  | _ :: _, [], h => h.elim
theorem eo_keys {i j : Nat} (hp : PE X e (tLockE (tLc (iKeys (tVar i)) (gName j) tYes (tVar j) [j]))) : EvO X C W e (mKeys i j) := by
  refine ⟨_, hp, fun F H σ ε Q R q => ?_⟩
  unfold mKeys at q
  cases h0 : ε[i]? with
  | none => rw [h0] at q; exact q.elim
  | some en =>
    rw [h0] at q
    cases en with
    | od ob =>
      cases ob with
      | dk qs =>
        dsimp only at q
        by_cases hc : qs.length ≤ 1000000 ∧ j < ε.length
        · rw [if_pos hc] at q
          obtain ⟨l, o, a1, b1, c1, r, g1⟩ := R.ent i _ h0
          cases o with
          | dK kvs =>
            have r' : RepQ X.K F kvs qs := r
            have hjl : j < σ.length := by rw [R.len]; exact hc.2
            refine ⟨l, .dK kvs, b1, trivial, fun od => ⟨.ref l, a1, l, od, rfl, .inl ⟨kvs, upd_same, fun D hD => ?_⟩⟩⟩
            have Dl : D ≠ l := fun z => by rw [z, upd_same] at hD; cases hD
            have hD0 : H D = none := by rw [upd_ne Dl] at hD; exact hD
            let L : Nat → Hp := fun n => upd (upd H l (.frz od (.dK kvs))) D (.lst ((kvs.take n).map fun kv => kV kv.1))
            refine ⟨fun n m H' => m = kvs.length - n ∧ n ≤ kvs.length ∧ H' = L n, ⟨kvs.length, by simp, Nat.zero_le _, rfl⟩, ?_⟩
            rintro n m H' ⟨rfl, hn, rfl⟩
            have hl : L n l = some (.frz od (.dK kvs)) := by
              show (upd (upd H l (.frz od (.dK kvs))) D _) l = _
              rw [upd_ne (fun z => Dl z.symm), upd_same]
            by_cases hlt : n < kvs.length
            · refine .inr ⟨⟨hl, hlt⟩, fun H' => H' = L (n + 1), fun H' e => ⟨kvs.length - (n + 1), by omega, rfl, hlt, e⟩, fun x H' y => ?_⟩
              obtain ⟨rfl, k, v, hk, rfl⟩ := y
              have wp : L2.wipe ((L2.wipe σ [j]).set j (some (kV k))) [j] = L2.wipe σ [j] := by
                show ((σ.set j none).set j (some (kV k))).set j none = σ.set j none
                rw [List.set_set, List.set_set]
              refine ⟨wp, ?_⟩
              unfold tYes
              dsimp only
              rw [if_pos rfl]
              refine ⟨kV k, ?_, (kvs.take n).map fun kv => kV kv.1, upd_same, ?_, ?_⟩
              · show ((σ.set j none).set j (some (kV k)))[j]? = _
                rw [List.set_set, List.getElem?_set_self hjl]
              · rw [List.length_map, List.length_take]
                have : kvs.length ≤ 1000000 := by rw [r'.length]; exact hc.1
                exact Nat.lt_of_lt_of_le (show min n kvs.length < 1000001 by omega) (by decide)
              · show upd (upd (upd H l (.frz od (.dK kvs))) D _) D _ = upd (upd H l (.frz od (.dK kvs))) D _
                rw [upd_upd]
                congr 2
                have ht : kvs.take (n + 1) = kvs.take n ++ [kvs[n]] := by rw [List.take_succ, List.getElem?_eq_getElem hlt]; rfl
                have hv : kvs[n] = (k, v) := by rw [List.getElem?_eq_getElem hlt] at hk; exact Option.some.inj hk
                rw [ht, List.map_append, hv]
                rfl
            · have hn2 : n = kvs.length := by omega
              subst hn2
              refine .inl ⟨⟨hl, Nat.le_refl _⟩, hl, ?_⟩
              have ef : upd (L kvs.length) l (.dK kvs) = upd H D (.lst (kvs.map fun kv => kV kv.1)) := by
                funext b
                show upd (upd (upd H l (.frz od (.dK kvs))) D (.lst ((kvs.take kvs.length).map fun kv => kV kv.1))) l (.dK kvs) b = _
                rw [List.take_length]
                by_cases hb : b = l
                · subst hb
                  rw [upd_same, upd_ne (fun z => Dl z.symm), b1]
                · rw [upd_ne hb]
                  by_cases hb2 : b = D
                  · subst hb2; rw [upd_same, upd_same]
                  · rw [upd_ne hb2, upd_ne hb, upd_ne hb2]
              rw [ef]
              exact ok_new R R Stp.refl (keys_rep r') q hD0
          | _ => exact r.elim
        · rw [if_neg hc] at q; exact q.elim
      | _ => exact q.elim
    | _ => exact q.elim
end
end DL

set_option Elab.async false
set_option linter.all false
set_option maxRecDepth 100000
namespace DL
open PySem PySem.Spec L2
section
variable {X : Cx} {C : Ct} {W : WX} {a b e e1 e2 o : Expr} {pos apos : Pos} {f g : Mo D} {s : Stmt}
def sevenNames : List String := ["NoneType", "bool", "int", "str", "tuple", "list", "dict"]
theorem ty_seven {d : D} {n : String} (h : tyName d = some n) : n ∈ sevenNames := by
  cases d <;> simp [tyName] at h <;> subst h <;> decide
/-! ### isinstance(x, C), C a class of one's own -/
structure IsiC (K : PySem.W.Frag) (c : Str) (Ca : Addr) : Prop where
  ns : PySem.W.nsIn K mainGlobals c = some (some (.ref Ca))
  cl : Cls K Ca
  f1 : PySem.W.findIn K (.ref Ca) "__class__" = some (some (.builtin "object.__class__"))
  f2 : PySem.W.specialIn K (.builtin "object.__class__") "__get__" = some (some (.builtin "getset_descriptor.__get__"))
  f3 : PySem.W.takesIn K (.builtin "object.__class__") = some true
  f4 : PySem.W.mroIn K Ca (.type "object") = some true
  no : ∀ n ∈ sevenNames, PySem.W.kitOne K (.type n) (.ref Ca) = some false
  nf : ∀ n ∈ sevenNames, PySem.W.notFirst K Ca (.type n) = true
theorem all7 {Q : String → Prop} (h1 : Q "NoneType") (h2 : Q "bool") (h3 : Q "int") (h4 : Q "str") (h5 : Q "tuple") (h6 : Q "list") (h7 : Q "dict") : ∀ n ∈ sevenNames, Q n := fun n hn => by
  simp only [sevenNames, List.mem_cons, List.not_mem_nil, or_false] at hn
  rcases hn with rfl | rfl | rfl | rfl | rfl | rfl | rfl <;> assumption
theorem nf_of {K : PySem.W.Frag} {Ca : Addr} {t : Value} (h : PySem.W.subIn K t (.ref Ca) = some false) : PySem.W.notFirst K Ca t = true := by
  simp [PySem.W.notFirst, h]
theorem IsiC.ty {K : PySem.W.Frag} {c : Str} {Ca : Addr} (T : IsiC K c Ca) {F H : Hp} {v : V} {d : D} {qs : List (Str × D)} (s : Same F H) (r : RepD K F v d) (h : partsOf c d = some qs) : ∃ p dx fs, v = .ref p ∧ H p = some (.ins Ca dx fs) ∧ RepQ K F fs qs ∧ TyX K H v (.ref Ca) := by
  obtain ⟨p, C2, dx, fs, rfl, n2, h1, rq⟩ := parts_rep r h
  rw [T.ns] at n2
  cases n2
  exact ⟨p, dx, fs, rfl, s _ _ h1, rq, .base (.ins (s _ _ h1) T.cl T.f1 T.f2 T.f3 T.f4)⟩
def isO (c : Str) (d : D) : Option D := match partsOf c d with
  | some _ => some (.bl true)
  | none => (tyName d).map fun _ => .bl false
def mIsO (c : Str) (f : Mo D) : Mo D := bnd f fun d => lft (isO c d)
theorem ev_isO {c : Str} {Ca : Addr} (T : IsiC X.K c Ca) (hf : EvD X C W e1 f) (pp : ∀ t, PE X e1 t → PA X [e1, e2] (tCons t (tCons (tC (.ref Ca)) tNil))) (hp : ∀ ta, PA X [e1, e2] ta → PE X e (tCB (rIsi X.K) ta)) : EvD X C W e (mIsO c f) := by
  obtain ⟨t1, p1, s1⟩ := hf
  refine ⟨_, hp _ (pp _ p1), fun F H σ ε Q R q => ?_⟩
  refine s1 F H σ ε _ R (q.bind.imp (fun d e q1 v F1 H1 R1 st1 r1 => ?_) fun x e z => z)
  unfold lft isO at q1
  cases hq : partsOf c d with
  | some qs =>
    rw [hq] at q1
    obtain ⟨p, dx, fs, rfl, h1, rq, ty⟩ := T.ty R1.fh r1 hq
    exact ⟨.ref p, .ref Ca, .ref Ca, .ref Ca, true, rfl, .own Ca, ty, by simp [PySem.W.kitOne], q1 (.bl true) F1 H1 R1 st1 (.bl true)⟩
  | none =>
    rw [hq] at q1
    cases hn : tyName d with
    | none => rw [hn] at q1; exact q1.elim
    | some n =>
      rw [hn] at q1
      exact ⟨v, .ref Ca, .type n, .ref Ca, false, rfl, .own Ca, ty_of R1.fh r1 hn, T.no n (ty_seven hn), q1 (.bl false) F1 H1 R1 st1 (.bl false)⟩
/-! ### x == y by an own __eq__ -/
def tEqOS (Ca : Addr) (sp : Sp) (E : St → XK) (ta tb : TE) : TE := fun σ H Q => ta σ H fun x H1 => tb σ H1 fun y H2 => ∃ p dx fs t, x = .ref p ∧ H2 p = some (.ins Ca dx fs) ∧ TyX X.K H2 y t ∧ PySem.W.notFirst X.K Ca t = true ∧ sp [x, y] H2 Q (E σ)
theorem pe_eqO {k : Nat} {Ca fa : Addr} {fd : FuncData} {ps : List Str} {sp : Sp} {E : St → XK} {ta tb : TE} (ha : PE X a ta) (hb : PE X b tb) (hu : X.A.units < cLine) (F : FnOk X.prog X.w X.K X.mg X.base (L2.CX X.prog X.w) k fa fd ps sp) (hs : PySem.W.findIn X.K (.ref Ca) "__eq__" = some (some (.ref fa))) (hf : PySem.W.isFn X.K (.ref fa) = true) (hr : Room k X.A) (hbd : Binds X.K fd ps []) (hx : ∀ σ, PassesAt (L2.CX X.prog X.w) X σ (E σ)) : PE X (.Compare a [.Eq] [b] pos) (tEqOS (X := X) Ca sp E ta tb) := by
  refine ⟨fun pins s σ H Q I h => ?_⟩
  refine wpAny_Compare1 (binT ha hb I h fun v u s2 x y H2 I2 rx ry q => ?_) (nomark _)
  obtain ⟨p, dx, fs, t, rfl, h1, ty, nf, q⟩ := q
  obtain rfl : v = Value.ref p := rx
  obtain ⟨P, Z, hp, _⟩ := kit_of I2 ry ty
  obtain ⟨mA, J, _⟩ := ins_get I2.hok h1
  obtain ⟨od, J, _⟩ := J.look
  obtain ⟨m, hF⟩ := I2.fr
  show wpAny (model X.prog X.w) X.A (richCompare .Eq (.ref p) u) (EP X pins σ Q) X.xe s2
  refine PySem.W.cmp_K (op := .Eq) hu hF I2.ok.mod.kin J (Z.ty _ _ I2.kIn hp) nf hs hf ?_
  refine wpAny_mono (run_fnS (us := [.ref p, u]) (vs := [.ref p, y]) F hr hbd (hx σ) I2 (.cons rfl (.cons ry .nil)) q) (fun r s3 z => ?_) fun _ _ x => x
  obtain ⟨w, H3, I3, rw', q3⟩ := z
  have z' : EP X pins σ Q r s3 := ⟨w, H3, I3, rw', q3⟩
  cases r <;> first | exact z' | (cases w <;> first | exact nomatch rw' | cases rw')
structure EqOk (P : Program) (w : World) (K : PySem.W.Frag) (mg : Str → Option Value) (base : Heap) (k : Nat) (c : Str) (mm : List D → Option Ans) (Ca fa : Addr) (fd : FuncData) (ps : List Str) : Prop where
  ic : IsiC K c Ca
  eq : PySem.W.findIn K (.ref Ca) "__eq__" = some (some (.ref fa))
  isf : PySem.W.isFn K (.ref fa) = true
  fn : FnOk P w K mg base (L2.CX P w) k fa fd ps (SpP K 2 mm)
  bd : Binds K fd ps []
def mEqO (c : Str) (mm : List D → Option Ans) (f g : Mo D) : Mo D := bnd f fun d => match partsOf c d with
  | some _ => bnd g fun e => if (tyName e).isSome = true ∨ (partsOf c e).isSome = true then ansM (mm [d, e]) else lft none
  | none => lft none
theorem ev_eqO {k : Nat} {c : Str} {mm : List D → Option Ans} {Ca fa : Addr} {fd : FuncData} {ps : List Str} (T : EqOk X.prog X.w X.K X.mg X.base k c mm Ca fa fd ps) (hu : X.A.units < cLine) (tk : Takes X W) (hr : Room k X.A) (ha : EvD X C W a f) (hb : EvD X C W b g) : EvD X C W (.Compare a [.Eq] [b] pos) (mEqO c mm f g) := by
  obtain ⟨ta, p0, s0⟩ := ha
  obtain ⟨tb, p1, s1⟩ := hb
  refine ⟨_, pe_eqO (E := WE W) p0 p1 hu T.fn T.eq T.isf hr T.bd (fun σ => passAt tk σ), fun F H σ ε Q R q => ?_⟩
  refine s0 F H σ ε _ R (q.bind.imp (fun d e q1 v F1 H1 R1 st1 r1 => ?_) fun x e z => z)
  cases hq : partsOf c d with
  | none => rw [hq] at q1; exact q1.elim
  | some qs =>
    rw [hq] at q1
    dsimp only at q1
    refine s1 F1 H1 σ e _ R1 (q1.bind.imp (fun d2 e2 q2 v2 F2 H2 R2 st2 r2 => ?_) fun x e z => z.imp st1)
    by_cases ht : (tyName d2).isSome = true ∨ (partsOf c d2).isSome = true
    · rw [if_pos ht] at q2
      obtain ⟨p, dx, fs, rfl, h1, rq, _⟩ := T.ic.ty R2.fh (r1.mono st2.ff) hq
      obtain ⟨t, ty, nf⟩ : ∃ t, TyX X.K H2 v2 t ∧ PySem.W.notFirst X.K Ca t = true := by
        cases hp : partsOf c d2 with
        | some q2' =>
          obtain ⟨_, _, _, _, _, _, ty⟩ := T.ic.ty R2.fh r2 hp
          exact ⟨_, ty, by simp [PySem.W.notFirst]⟩
        | none =>
          rw [hp] at ht
          obtain ⟨n, hn⟩ := Option.isSome_iff_exists.mp (ht.resolve_right (by simp))
          exact ⟨_, ty_of R2.fh r2 hn, T.ic.nf n (ty_seven hn)⟩
      exact ⟨p, dx, fs, t, rfl, h1, ty, nf, sp_go (ds := [d2]) (n := 2) (mm := mm) (by rw [if_pos (show [d2].length + 1 = 2 from rfl)]; exact q2) R2 (st1.trans st2) (r1.mono st2.ff) (.cons r2 .nil)⟩
    · rw [if_neg ht] at q2; exact q2.elim
end
end DL

set_option Elab.async false
set_option linter.all false
set_option maxRecDepth 100000
namespace DL
open PySem PySem.Spec L2
section
variable {X : Cx} {C : Ct} {W : WX} {a b e o : Expr} {es : List Expr} {pos apos : Pos} {f g : Mo D} {s : Stmt}
/-! ### xs.insert(k, v) -/
def rIns : V → List V → Hp → VK → Prop := fun x vs H Q => ∃ (l : Addr) (xs : List V) (i : Int) (y : V), x = .ref l ∧ vs = [.int i, y] ∧ H l = some (.lst xs) ∧ xs.length < sizeLine ∧ 0 ≤ i ∧ i < 2 ^ 63 ∧ Q .non (upd H l (.lst (xs.take i.toNat ++ [y] ++ xs.drop i.toNat)))
theorem mt_ins : MtR X "list.insert" rIns := mt_insert
def insArg : List D → Option (Int × D)
  | [.int j, d] => some (j, d)
  | _ => none
theorem insArg_eq {ds : List D} {j : Int} {d : D} (h : insArg ds = some (j, d)) : ds = [.int j, d] := by
  unfold insArg at h
  split at h
  · cases h; rfl
  · cases h
def mIns (i : Nat) (fa : Mo (List D)) : MoS := fun ε0 => match (ε0[i]?).bind Ent.get with
  | none => none
  | some _ => mThen fa (fun ds ε => match ε[i]?, insArg ds with
    | some e, some (j, d) => (match e.get with
      | none => none
      | some ps => if ps.length < 1000000 ∧ 0 ≤ j ∧ j < 1000000000 then some (.nx (ε.set i (e.put (ps.take j.toNat ++ [d] ++ ps.drop j.toNat)))) else none)
    | _, _ => none) ε0
theorem st_ins {i : Nat} {fa : Mo (List D)} (hp : ∀ ta, PA X es ta → PS X s (tDrop (tBM X.K "list" rIns (tVar i) ta))) (ha : EaD X C W es fa) : StD X C W s (mIns i fa) := by
  obtain ⟨ta, p, sa⟩ := ha
  refine ⟨_, hp _ p, fun F H σ ε D R q => ?_⟩
  unfold mIns at q
  cases h0 : ε[i]? with
  | none => rw [h0] at q; exact q.elim
  | some e0 =>
    cases h1 : e0.get with
    | none => rw [h0] at q; simp only [Option.bind_some, h1] at q; exact q.elim
    | some p0 =>
      rw [h0] at q
      simp only [Option.bind_some, h1] at q
      obtain ⟨l, us0, a0, b0, _⟩ := R.at h0 h1
      refine ⟨.ref l, a0, .inl ⟨rfl, us0, .inl (.inl b0)⟩, ?_⟩
      refine sa F H σ ε _ R ((then_good q).imp (fun ds e q1 vs F1 H1 R1 st1 r1 => ?_) fun x e z => z)
      cases h2 : e[i]? with
      | none => rw [h2] at q1; exact q1.elim
      | some e1 =>
        rw [h2] at q1
        cases hi : insArg ds with
        | none => rw [hi] at q1; exact q1.elim
        | some jd =>
          obtain ⟨j, d⟩ := jd
          rw [hi] at q1
          have hds := insArg_eq hi
          subst hds
          dsimp only at q1
          cases h3 : e1.get with
          | none => rw [h3] at q1; exact q1.elim
          | some ps =>
            rw [h3] at q1
            dsimp only at q1
            by_cases hz : ps.length < 1000000 ∧ 0 ≤ j ∧ j < 1000000000
            · rw [if_pos hz] at q1
              cases r1 with
              | cons ra r1 => cases r1 with
                | cons rb r1 =>
                  cases r1
                  obtain rfl := rep_int ra
                  obtain ⟨l2, us, a, b, c, d', hm⟩ := R1.at h2 h3
                  rw [a0] at a
                  cases a
                  obtain ⟨R2, st2⟩ := R1.callQ (F' := F1) (H' := upd H1 l (.lst (us.take j.toNat ++ [_] ++ us.drop j.toNat))) (ps' := ps.take j.toNat ++ [d] ++ ps.drop j.toNat) h2 h3 a0 (Same.refl F1) (fun x o q => by
                    rw [upd_ne (fun z => by rw [z, c] at q; cases q)]; exact R1.fh x o q) (fun x o q n => by rw [upd_ne n]; exact q) (fun _ _ => rfl) upd_same (((d'.take _).append (.cons rb .nil)).append (d'.drop _))
                  exact ⟨l, us, j, _, rfl, rfl, b, by rw [d'.length]; exact Nat.lt_of_lt_of_le hz.1 (by decide), hz.2.1, Int.lt_trans hz.2.2 (by decide), q1 F1 _ σ R2 st1.ff⟩
            · rw [if_neg hz] at q1; exact q1.elim
/-! ### xs.pop(k) -/
theorem RepL.erase {K : PySem.W.Frag} {F : Hp} : ∀ {vs : List V} {ds : List D} (n : Nat), RepL K F vs ds → RepL K F (vs.eraseIdx n) (ds.eraseIdx n)
  | _, _, _, .nil => .nil
  | _, _, 0, .cons _ r => r
  | _, _, n + 1, .cons h r => .cons h (RepL.erase n r)
def mPopAt (i : Nat) (fk : Mo D) : Mo D := fun ε0 => match (ε0[i]?).bind Ent.get with
  | none => none
  | some _ => bnd fk (fun k ε => match ε[i]?, k with
    | some e, .int j => (match e.get with
      | none => none
      | some ps => if ps.length < 1000000 ∧ 0 ≤ j then (match ps[j.toNat]? with
        | some d => some (.ok d (ε.set i (e.put (ps.eraseIdx j.toNat))))
        | none => none) else none)
    | _, _ => none) ε0
theorem ev_popAt {i : Nat} (hp : ∀ tk, PE X a tk → PE X e (tBM X.K "list" rPopAt (tVar i) (tCons tk tNil))) (ha : EvD X C W a f) : EvD X C W e (mPopAt i f) := by
  obtain ⟨te, p, sd⟩ := ha
  refine ⟨_, hp _ p, fun F H σ ε Q R q => ?_⟩
  unfold mPopAt at q
  cases h0 : ε[i]? with
  | none => rw [h0] at q; exact q.elim
  | some e0 =>
    cases h1 : e0.get with
    | none => rw [h0] at q; simp only [Option.bind_some, h1] at q; exact q.elim
    | some p0 =>
      rw [h0] at q
      simp only [Option.bind_some, h1] at q
      obtain ⟨l, us0, a0, b0, _⟩ := R.at h0 h1
      refine ⟨.ref l, a0, .inl ⟨rfl, us0, .inl (.inl b0)⟩, ?_⟩
      refine sd F H σ ε _ R (q.bind.imp (fun k e q1 v F1 H1 R1 st1 r1 => ?_) fun x e z => z)
      cases h2 : e[i]? with
      | none => rw [h2] at q1; exact q1.elim
      | some e1 =>
        rw [h2] at q1
        cases k with
        | int j =>
          dsimp only at q1
          cases h3 : e1.get with
          | none => rw [h3] at q1; exact q1.elim
          | some ps =>
            rw [h3] at q1
            dsimp only at q1
            by_cases hz : ps.length < 1000000 ∧ 0 ≤ j
            · rw [if_pos hz] at q1
              cases h4 : ps[j.toNat]? with
              | none => rw [h4] at q1; exact q1.elim
              | some y =>
                rw [h4] at q1
                obtain rfl := rep_int r1
                obtain ⟨l2, us, a, b, c, d', hm⟩ := R1.at h2 h3
                rw [a0] at a
                cases a
                obtain ⟨hlt, _⟩ := List.getElem?_eq_some_iff.mp h4
                obtain ⟨v, hv, rv⟩ := d'.get h4
                obtain ⟨R2, st2⟩ := R1.callQ (F' := F1) (H' := upd H1 l (.lst (us.eraseIdx j.toNat))) (ps' := ps.eraseIdx j.toNat) h2 h3 a0 (Same.refl F1) (fun x o q => by
                  rw [upd_ne (fun z => by rw [z, c] at q; cases q)]; exact R1.fh x o q) (fun x o q n => by rw [upd_ne n]; exact q) (fun _ _ => rfl) upd_same (d'.erase _)
                have hj : (j.toNat : Int) = j := Int.toNat_of_nonneg hz.2
                have hn : j < 1000000 := by omega
                refine ⟨l, us, j, j.toNat, v, rfl, rfl, b, by omega, by omega, ?_, hv, q1 v F1 _ R2 (st1.trans st2) rv⟩
                unfold seqIndex?
                rw [d'.length]
                have h5 : ¬ j < 0 := by omega
                have h6 : j < (ps.length : Int) := by omega
                simp [h5, h6, hz.2]
            · rw [if_neg hz] at q1; exact q1.elim
        | _ => exact q1.elim
end
end DL

set_option Elab.async false
set_option linter.all false
set_option maxRecDepth 100000
namespace DL
open PySem PySem.Spec L2 PyProof.Rows
section
variable {X : Cx} {C : Ct} {W : WX} {a b c d e : Expr} {pos : Pos} {f g h f4 : Mo D} {ta tb tc td : TE}
/-! ### a op1 b op2 c op3 d -/
def tChain3 (r r' r'' : R2) (ta tb tc td : TE) : TE := fun σ H Q => ta σ H fun x H1 => tb σ H1 fun y H2 => r x y H2 fun z H3 => ∃ k, z = .bl k ∧
  (if k = true then tc σ H3 fun w H4 => r' y w H4 fun z2 H5 => ∃ k2, z2 = .bl k2 ∧ (if k2 = true then td σ H5 fun u H6 => r'' w u H6 Q else Q (.bl false) H5) else Q (.bl false) H3)
theorem pt_chain3 {op op' op'' : CmpOp} {r r' r'' : R2} (ho : OpR X (compareOp op) r) (ho' : OpR X (compareOp op') r') (ho'' : OpR X (compareOp op'') r'') (ha : PE X a ta) (hb : PE X b tb) (hc : PE X c tc) (hd : PE X d td)
    (hm : lastMarks [op, op', op''] [b, c, d] = false := by with_unfolding_all rfl) : PT X (.Compare a [op, op', op''] [b, c, d] pos) (tTest (tChain3 r r' r'' ta tb tc td)) := by
  refine ⟨fun pins s σ H Q I h => ?_⟩
  refine isTrue_chain (thn (ha.run pins s σ H _ I h) fun v s1 ⟨x, H1, I1, r1, q1⟩ => test_link (thn (hb.run pins s1 σ H1 _ I1 q1) fun u s2 ⟨y, H2, I2, r2, q2⟩ =>
    thn (ho pins s2 σ H2 x y v u _ I2 r1 r2 q2) fun d s3 ⟨z, H3, I3, r3, k, e, q3⟩ => ?_)) hm
  subst e
  cases r3
  refine wpAny_truthy_bool ?_
  cases k with
  | false =>
    obtain ⟨k', e', q'⟩ := q3
    cases e'
    exact ite_ff ⟨H3, I3, q'⟩
  | true =>
    refine ite_tt (test_link (thn (hc.run pins s3 σ H3 _ I3 q3) fun w' s4 ⟨z', H4, I4, r4, q4⟩ => thn (ho' pins s4 σ H4 y z' u w' _ I4 r2 r4 q4) fun d' s5 ⟨z2, H5, I5, r5, k2, e2, q5⟩ => ?_))
    subst e2
    cases r5
    refine wpAny_truthy_bool ?_
    cases k2 with
    | false =>
      obtain ⟨k', e', q'⟩ := q5
      cases e'
      exact ite_ff ⟨H5, I5, q'⟩
    | true =>
      refine ite_tt (test_last (thn (hd.run pins s5 σ H5 _ I5 q5) fun w2 s6 ⟨z6, H6, I6, r6, q6⟩ => thn (ho'' pins s6 σ H6 z' z6 w' w2 _ I6 r4 r6 q6) fun d7 s7 ⟨z7, H7, I7, r7, k7, e7, q7⟩ => ?_))
      subst e7
      cases r7
      exact wpAny_truthy_bool ⟨H7, I7, q7⟩
def mChain3 (g1 g2 g3 : D → D → Option D) (f g h f4 : Mo D) : Mo D := bnd f fun x => bnd g fun y => bnd (mB (lft (g1 x y))) fun k => if k = true then bnd h fun z => bnd (mB (lft (g2 y z))) fun k2 => if k2 = true then bnd f4 fun w => lft (g3 z w) else pur (.bl false) else pur (.bl false)
theorem sd_chain3 {K : PySem.W.Frag} {r r' r'' : R2} {g1 g2 g3 : D → D → Option D} (hv : VOp K r g1) (hv' : VOp K r' g2) (hv'' : VOp K r'' g3) (s0 : SdE K C W ta f) (s1 : SdE K C W tb g) (s2 : SdE K C W tc h) (s3 : SdE K C W td f4) : SdE K C W (tChain3 r r' r'' ta tb tc td) (mChain3 g1 g2 g3 f g h f4) := fun F H σ ε Q R q => by
  refine s0 F H σ ε _ R (q.bind.imp (fun d e q1 v F1 H1 R1 st1 r1 => ?_) fun x e z => z)
  refine s1 F1 H1 σ e _ R1 (q1.bind.imp (fun d2 e2 q2 v2 F2 H2 R2 st2 r2 => ?_) fun x e z => z.imp st1)
  have q3 := good_mB q2.bind
  unfold lft at q3
  cases hk : g1 d d2 with
  | none => rw [hk] at q3; exact q3.elim
  | some k =>
    rw [hk] at q3
    obtain ⟨kb, ek, q4⟩ := q3
    subst ek
    refine hv F2 H2 v v2 d d2 _ _ R2.fh (r1.mono st2.ff) r2 hk fun w F3 H3 st3 rw' => ⟨kb, rep_bl rw', ?_⟩
    have R3 := R2.step st3
    have st13 := (st1.trans st2).trans st3.stp
    cases kb with
    | false => exact iteF (q4 (.bl false) F3 H3 R3 st13 (.bl false))
    | true =>
      refine iteT ?_
      rw [if_pos rfl] at q4
      refine s2 F3 H3 σ e2 _ R3 (q4.bind.imp (fun d5 e5 q5 v5 F5 H5 R5 st5 r5 => ?_) fun x e z => z.imp st13)
      have q6 := good_mB q5.bind
      unfold lft at q6
      cases hk2 : g2 d2 d5 with
      | none => rw [hk2] at q6; exact q6.elim
      | some k2 =>
        rw [hk2] at q6
        obtain ⟨kb2, ek2, q7⟩ := q6
        subst ek2
        refine hv' F5 H5 v2 v5 d2 d5 _ _ R5.fh ((r2.mono st3.ff).mono st5.ff) r5 hk2 fun w6 F6 H6 st6 rw6 => ⟨kb2, rep_bl rw6, ?_⟩
        have R6 := R5.step st6
        have st16 := (st13.trans st5).trans st6.stp
        cases kb2 with
        | false => exact iteF (q7 (.bl false) F6 H6 R6 st16 (.bl false))
        | true =>
          refine iteT ?_
          rw [if_pos rfl] at q7
          refine s3 F6 H6 σ e5 _ R6 (q7.bind.imp (fun d8 e8 q8 v8 F8 H8 R8 st8 r8 => ?_) fun x e z => z.imp st16)
          unfold lft at q8
          cases hk3 : g3 d5 d8 with
          | none => rw [hk3] at q8; exact q8.elim
          | some k3 =>
            rw [hk3] at q8
            exact hv'' F8 H8 v5 v8 d5 d8 _ _ R8.fh ((r5.mono st6.ff).mono st8.ff) r8 hk3 fun w9 F9 H9 st9 rw9 => q8 w9 F9 H9 (R8.step st9) ((st16.trans st8).trans st9.stp) rw9
theorem te_chain3 {r r' r'' : R2} {g1 g2 g3 : D → D → Option D} (hv : VOp X.K r g1) (hv' : VOp X.K r' g2) (hv'' : VOp X.K r'' g3) (ha : EvD X C W a f) (hb : EvD X C W b g) (hc : EvD X C W c h) (hd : EvD X C W d f4)
    (hp : ∀ ta tb tc td, PE X a ta → PE X b tb → PE X c tc → PE X d td → PT X e (tTest (tChain3 r r' r'' ta tb tc td))) : TeD X C W e (mB (mChain3 g1 g2 g3 f g h f4)) := by
  obtain ⟨ta, p0, s0⟩ := ha
  obtain ⟨tb, p1, s1⟩ := hb
  obtain ⟨tc, p2, s2⟩ := hc
  obtain ⟨td, p3, s3⟩ := hd
  exact ⟨_, hp _ _ _ _ p0 p1 p2 p3, sd_test (sd_chain3 hv hv' hv'' s0 s1 s2 s3)⟩
end
end DL

set_option Elab.async false
set_option linter.all false
namespace DL
open PySem PySem.Spec L2
/-! ghosts: what a frame holds may be frozen or forgotten at any time -/
def frz1 (i : Nat) (ε : List Ent) : List Ent := match ε[i]? with
  | some (.own ds) => ε.set i (.dat (.lst ds))
  | some (.od b) => ε.set i (.dat b.frz)
  | _ => ε
def clr1 (i : Nat) (ε : List Ent) : List Ent := match ε[i]? with
  | some (.dat _) => ε.set i .un
  | some (.own _) => ε.set i .un
  | some (.od _) => ε.set i .un
  | _ => ε
/-- a change of frames that is always allowed -/
def Gh (g : List Ent → List Ent) : Prop := ∀ (K : PySem.W.Frag) (C : Ct) (F H : Hp) (σ : St) (ε : List Ent), Rep K C F H σ ε → ∃ F', Same F F' ∧ Rep K C F' H σ (g ε)
theorem Rep.forget {K : PySem.W.Frag} {C : Ct} {F H : Hp} {σ : St} {ε : List Ent} (R : Rep K C F H σ ε) (i : Nat) : Rep K C F H σ (ε.set i .un) where
  fh := R.fh
  ff := R.ff
  old := R.old
  keep := R.keep
  tr := R.tr
  len := by rw [List.length_set]; exact R.len
  ent := fun j e h => by
    by_cases hij : i = j
    · subst hij
      have hl : i < ε.length := by
        have := (List.getElem?_eq_some_iff.mp h).1
        rwa [List.length_set] at this
      rw [List.getElem?_set_self hl] at h
      cases h
      trivial
    · rw [List.getElem?_set_ne hij] at h
      exact R.ent j e h
  dis := fun j k l e e' h1 h2 h3 h4 m1 m2 => by
    have aux : ∀ (n : Nat) (e : Ent), (ε.set i .un)[n]? = some e → e.mut = true → ε[n]? = some e := fun n e h m => by
      by_cases hin : i = n
      · subst hin
        have hl : i < ε.length := by
          have := (List.getElem?_eq_some_iff.mp h).1
          rwa [List.length_set] at this
        rw [List.getElem?_set_self hl] at h
        cases h
        cases m
      · rwa [List.getElem?_set_ne hin] at h
    exact R.dis j k l e e' h1 h2 (aux j e h3 m1) (aux k e' h4 m2) m1 m2
theorem gh_frz (i : Nat) : Gh (frz1 i) := fun K C F H σ ε R => by
  unfold frz1
  cases he : ε[i]? with
  | none => exact ⟨F, Same.refl F, R⟩
  | some e =>
    cases e with
    | own ds =>
      obtain ⟨l, vs, _, h2, _, R'⟩ := R.freezeAt he
      exact ⟨_, same_upd h2, R'⟩
    | od b =>
      obtain ⟨l, o, _, h2, _, R'⟩ := R.freezeB he
      exact ⟨_, same_upd h2, R'⟩
    | _ => exact ⟨F, Same.refl F, R⟩
theorem gh_clr (i : Nat) : Gh (clr1 i) := fun K C F H σ ε R => by
  unfold clr1
  cases he : ε[i]? with
  | none => exact ⟨F, Same.refl F, R⟩
  | some e => cases e <;> first | exact ⟨F, Same.refl F, R⟩ | exact ⟨F, Same.refl F, R.forget i⟩
def frzs : List Nat → List Ent → List Ent
  | [], ε => ε
  | i :: is, ε => frzs is (frz1 i ε)
def clrs : List Nat → List Ent → List Ent
  | [], ε => ε
  | i :: is, ε => clrs is (clr1 i ε)
theorem gh_frzs : ∀ is : List Nat, Gh (frzs is)
  | [] => fun K C F H σ ε R => ⟨F, Same.refl F, R⟩
  | i :: is => fun K C F H σ ε R => by
    obtain ⟨F1, s1, R1⟩ := gh_frz i K C F H σ ε R
    obtain ⟨F2, s2, R2⟩ := gh_frzs is K C F1 H σ _ R1
    exact ⟨F2, s1.trans s2, R2⟩
theorem gh_clrs : ∀ is : List Nat, Gh (clrs is)
  | [] => fun K C F H σ ε R => ⟨F, Same.refl F, R⟩
  | i :: is => fun K C F H σ ε R => by
    obtain ⟨F1, s1, R1⟩ := gh_clr i K C F H σ ε R
    obtain ⟨F2, s2, R2⟩ := gh_clrs is K C F1 H σ _ R1
    exact ⟨F2, s1.trans s2, R2⟩
/-- ghosts ahead of a statement -/
def mPre (is : List Nat) (m : MoS) : MoS := fun ε => m (frzs is ε)
/-- ghosts behind it, on every way that goes on in the same frame -/
def mPost (is js : List Nat) (m : MoS) : MoS := fun ε => match m ε with
  | some (.nx ε') => some (.nx (clrs js (frzs is ε')))
  | some (.bk ε') => some (.bk (clrs js (frzs is ε')))
  | some (.ct ε') => some (.ct (clrs js (frzs is ε')))
  | r => r
theorem sd_pre {K : PySem.W.Frag} {C : Ct} {W : WX} {ts : TS} {m : MoS} (h : SdS K C W ts m) (is : List Nat) : SdS K C W ts (mPre is m) := fun F H σ ε D R q => by
  obtain ⟨F1, s1, R1⟩ := gh_frzs is K C F H σ ε R
  exact h F1 H σ _ D R1 (GoodS.mono q s1)
theorem sd_post {K : PySem.W.Frag} {C : Ct} {W : WX} {ts : TS} {m : MoS} (h : SdS K C W ts m) (is js : List Nat) : SdS K C W ts (mPost is js m) := fun F H σ ε D R q => by
  refine h F H σ ε D R ?_
  unfold mPost at q
  have go : ∀ (p : St → Hp → Prop) (ε' : List Ent), (∀ F' H' σ', Rep K C F' H' σ' (clrs js (frzs is ε')) → Same F F' → p σ' H') → ∀ F' H' σ', Rep K C F' H' σ' ε' → Same F F' → p σ' H' := fun p ε' h F' H' σ' R s => by
    obtain ⟨F1, s1, R1⟩ := gh_frzs is K C F' H' σ' ε' R
    obtain ⟨F2, s2, R2⟩ := gh_clrs js K C F1 H' σ' _ R1
    exact h F2 H' σ' R2 (s.trans (s1.trans s2))
  cases hm : m ε with
  | none => rw [hm] at q; exact q
  | some r =>
    rw [hm] at q
    cases r with
    | nx e => exact go _ e q
    | bk e => exact go _ e q
    | ct e => exact go _ e q
    | rt d e => exact q
    | ro ds e => exact q
    | ex x e => exact q
variable {X : Cx} {C : Ct} {W : WX} {s : Stmt} {ss : List Stmt} {m : MoS}
theorem st_pre (is : List Nat) (h : StD X C W s m) : StD X C W s (mPre is m) := by
  obtain ⟨ts, p, sd⟩ := h
  exact ⟨ts, p, sd_pre sd is⟩
theorem st_post (is js : List Nat) (h : StD X C W s m) : StD X C W s (mPost is js m) := by
  obtain ⟨ts, p, sd⟩ := h
  exact ⟨ts, p, sd_post sd is js⟩
theorem ss_post (is js : List Nat) (h : SsD X C W ss m) : SsD X C W ss (mPost is js m) := by
  obtain ⟨ts, p, sd⟩ := h
  exact ⟨ts, p, sd_post sd is js⟩
end DL

set_option Elab.async false
set_option linter.all false
set_option maxRecDepth 100000
namespace DL
open PySem PySem.Spec L2
/-! ### reversed(list or tuple), walked -/
def revOf (d : D) : Option (List D) := match d with
  | .lst ds => some ds.reverse
  | .rdl ds => some ds.reverse
  | .tup ds => some ds.reverse
  | _ => none
theorem rev_get {K : PySem.W.Frag} {F : Hp} {xs : List V} {ds : List D} (r : RepL K F xs ds) {i : Nat} {x : V} (hi : i < ds.length) (h : xs[xs.length - 1 - i]? = some x) : ∃ d, ds.reverse[i]? = some d ∧ RepD K F x d := by
  obtain ⟨d, h1, h2⟩ := r.getV h
  refine ⟨d, ?_, h2⟩
  rw [List.getElem?_reverse hi, ← r.length]
  exact h1
theorem it_rev {K : PySem.W.Frag} {F : Hp} {a : Addr} {xs : List V} {ds : List D} (h : SqL K F a xs) (r : RepL K F xs ds) : ItOk K F (Itv K a xs.length) ds.reverse where
  go := fun F' H' i s1 s2 hi => by
    rw [List.length_reverse] at hi
    have hx : i < xs.length := by rw [r.length]; exact hi
    exact ⟨hx, xs, xs[xs.length - 1 - i], Same.seq (s1.trans s2) h, List.getElem?_eq_getElem (by omega)⟩
  yl := fun F' H' i x H2 s1 s2 hi ⟨e, y⟩ => by
    subst e
    rw [List.length_reverse] at hi
    obtain ⟨d, h1, h2⟩ := rev_get r hi (y xs (Same.seq (s1.trans s2) h))
    exact ⟨d, F', h1, Ste.refl s2, h2.mono s1⟩
  st := fun F' H' i s1 s2 hi => by
    rw [List.length_reverse] at hi
    show xs.length ≤ i
    rw [r.length]; exact hi
theorem it_revT {K : PySem.W.Frag} {F : Hp} {a : Addr} {xs : List V} {ds : List D} (h : SqT K F a xs) (r : RepL K F xs ds) : ItOk K F (RT.ItvT K a xs.length) ds.reverse where
  go := fun F' H' i s1 s2 hi => by
    rw [List.length_reverse] at hi
    have hx : i < xs.length := by rw [r.length]; exact hi
    exact ⟨hx, xs, xs[xs.length - 1 - i], seqT (s1.trans s2) h, List.getElem?_eq_getElem (by omega)⟩
  yl := fun F' H' i x H2 s1 s2 hi ⟨e, y⟩ => by
    subst e
    rw [List.length_reverse] at hi
    obtain ⟨d, h1, h2⟩ := rev_get r hi (y xs (seqT (s1.trans s2) h))
    exact ⟨d, F', h1, Ste.refl s2, h2.mono s1⟩
  st := fun F' H' i s1 s2 hi => by
    rw [List.length_reverse] at hi
    show xs.length ≤ i
    rw [r.length]; exact hi
section
variable {X : Cx} {C : Ct} {W : WX} {a b c e tg : Expr} {pos : Pos} {f g h : Mo D}
theorem ei_rev (he : EvD X C W e f) (hp : ∀ te, PE X e te → PI X tg a (RT.iRevA X.K te)) : EiD X C W tg a (bnd f fun d => lft (revOf d)) := by
  obtain ⟨te, p1, s1⟩ := he
  refine ⟨_, hp _ p1, fun F H σ ε R R0 q => ?_⟩
  refine s1 F H σ ε _ R0 (q.bind.imp (fun d e q1 v F1 H1 R1 st1 r1 => ?_) fun x e z => z)
  cases d with
  | lst ds =>
    obtain ⟨p, xs, rfl, h, r⟩ := rep_seqs r1
    exact ⟨p, xs, rfl, .inl ⟨Same.seq R1.fh h, q1 _ F1 H1 R1 st1 (it_rev h r)⟩⟩
  | rdl ds =>
    obtain ⟨p, xs, rfl, h, r⟩ := rep_rdl r1
    exact ⟨p, xs, rfl, .inl ⟨Same.seq R1.fh h, q1 _ F1 H1 R1 st1 (it_rev h r)⟩⟩
  | tup ds =>
    obtain ⟨p, xs, rfl, h, r⟩ := rep_tup r1
    exact ⟨p, xs, rfl, .inr ⟨seqT R1.fh h, q1 _ F1 H1 R1 st1 (it_revT h r)⟩⟩
  | _ => exact q1.elim
/-! ### range(i, j, -1) -/
def dnD (i : Int) (n : Nat) : List D := (List.range n).map fun (k : Nat) => D.int (i + (k : Int) * (-1))
theorem it_dn {K : PySem.W.Frag} {F : Hp} {i : Int} {n : Nat} : ItOk K F (Itc i (-1) n) (dnD i n) where
  go := fun F' H' i _ _ hi => by
    unfold dnD at hi
    rw [List.length_map, List.length_range] at hi
    exact hi
  yl := fun F' H' j x H2 _ s2 hi ⟨e, y⟩ => by
    unfold dnD at hi ⊢
    rw [List.length_map, List.length_range] at hi
    subst e y
    exact ⟨.int (i + (j : Int) * (-1)), F', by rw [List.getElem?_map, List.getElem?_range hi]; rfl, Ste.refl s2, .int _⟩
  st := fun F' H' i _ _ hi => by
    unfold dnD at hi
    rw [List.length_map, List.length_range] at hi
    exact hi
def rng3 : List D → Option (List D)
  | [.int i, .int j, .int (-1)] => if inR i = true ∧ inR j = true then some (dnD i (i - j).toNat) else none
  | _ => none
theorem ei_range3 {fs : Mo (List D)} (ha : EaD X C W [a, b, c] fs) (hp : ∀ ta, PA X [a, b, c] ta → PI X tg e (iRng3 ta)) : EiD X C W tg e (bnd fs fun ds => lft (rng3 ds)) := by
  obtain ⟨ta, p1, s1⟩ := ha
  refine ⟨_, hp _ p1, fun F H σ ε R R0 q => ?_⟩
  refine s1 F H σ ε _ R0 (q.bind.imp (fun ds e q1 vs F1 H1 R1 st1 r1 => ?_) fun x e z => z)
  unfold lft at q1
  cases hr : rng3 ds with
  | none => rw [hr] at q1; exact q1.elim
  | some is =>
    rw [hr] at q1
    unfold rng3 at hr
    split at hr
    · rename_i i j
      split at hr
      · rename_i hb
        cases hr
        have := RepL.ints (ns := [i, j, -1]) r1
        subst this
        exact ⟨i, j, -1, _, rfl, RgC.neg (inR_of hb.1).1 (inR_of hb.1).2 (inR_of hb.2).1 (inR_of hb.2).2, q1 _ F1 H1 R1 st1 it_dn⟩
      · cases hr
    · cases hr
/-! ### xs * k -/
def gRepL : D → D → Option D
  | .lst ds, .int k => if 0 ≤ k ∧ k ≤ 1000000 ∧ ds.length * k.toNat ≤ 1000000 then some (.lst (List.replicate k.toNat ds).flatten) else none
  | _, _ => none
theorem RepL.rep {K : PySem.W.Frag} {F : Hp} {xs : List V} {ds : List D} (r : RepL K F xs ds) : ∀ n : Nat, RepL K F (List.replicate n xs).flatten (List.replicate n ds).flatten
  | 0 => .nil
  | n + 1 => by
    rw [List.replicate_succ, List.replicate_succ, List.flatten_cons, List.flatten_cons]
    exact r.append (RepL.rep r n)
theorem vop_repL {K : PySem.W.Frag} : VOp K rRep gRepL := by
  intro F H x y a b c Q s ra rb hg q
  unfold gRepL at hg
  split at hg
  · split at hg
    · rename_i ds k hz
      cases hg
      obtain ⟨p, xs, rfl, h, r⟩ := rep_lst ra
      have e := rep_int rb
      subst e
      refine ⟨p, k, xs, rfl, rfl, s _ _ h, by omega, by omega, by rw [r.length]; exact line_big hz.2.2, fun l hl => ?_⟩
      have st := Ste.laid (o := .lst (List.replicate k.toNat xs).flatten) s hl
      exact q _ _ _ st (.lst upd_same ((RepL.rep r _).mono st.ff))
    · cases hg
  · cases hg
/-- as one's own -/
def mRepO (f g : Mo D) : Mo (List D) := bnd f fun a => bnd g fun b => lft (match a, b with
  | .lst ds, .int k => if 0 ≤ k ∧ k ≤ 1000000 ∧ ds.length * k.toNat ≤ 1000000 then some (List.replicate k.toNat ds).flatten else none
  | _, _ => none)
theorem eo_rep (ha : EvD X C W a f) (hb : EvD X C W b g) : EvO X C W (.BinOp a .Mult b pos) (mRepO f g) := by
  obtain ⟨ta, p0, s0⟩ := ha
  obtain ⟨tb, p1, s1⟩ := hb
  refine ⟨_, pe_op op_rep p0 p1, fun F H σ ε Q R q => ?_⟩
  refine s0 F H σ ε _ R (q.bind.imp (fun d e q1 v F1 H1 R1 st1 r1 => ?_) fun x e z => z)
  refine s1 F1 H1 σ e _ R1 (q1.bind.imp (fun d2 e2 q2 v2 F2 H2 R2 st2 r2 => ?_) fun x e z => z.imp st1)
  have r1' := r1.mono st2.ff
  cases d with
  | lst ds =>
    cases d2 with
    | int k =>
      obtain ⟨p, xs, rfl, h, r⟩ := rep_lst r1'
      have e := rep_int r2
      subst e
      unfold lft at q2
      dsimp only at q2
      by_cases hz : 0 ≤ k ∧ k ≤ 1000000 ∧ ds.length * k.toNat ≤ 1000000
      · rw [if_pos hz] at q2
        exact ⟨p, k, xs, rfl, rfl, R2.fh _ _ h, by omega, by omega, by rw [r.length]; exact line_big hz.2.2, fun l hl => ok_new R R2 (st1.trans st2) (RepL.rep r _) q2 hl⟩
      · rw [if_neg hz] at q2; exact q2.elim
    | _ => exact q2.elim
  | _ => exact q2.elim
/-! ### xs[::-1] of a list, as one's own -/
theorem eo_rev1 {k : Nat} {p1 p2 p3 : Pos} (ha : EvD X C W a f) : EvO X C W (.Subscript a (.Slice none none (some (.UnaryOp .USub (.Constant (.int 1) k p1) p2)) p3) pos) (mListRev f) := by
  obtain ⟨ta, p0, s0⟩ := ha
  refine ⟨_, pe_revL p0, fun F H σ ε Q R q => ?_⟩
  refine s0 F H σ ε _ R (q.bind.imp (fun d e q1 v F1 H1 R1 st1 r1 => ?_) fun x e z => z)
  cases d with
  | lst ds =>
    obtain ⟨p, xs, rfl, h, r⟩ := rep_seqs r1
    exact ⟨p, xs, rfl, Same.seq R1.fh h, fun l hl => ok_new R R1 st1 r.reverse q1 hl⟩
  | rdl ds =>
    obtain ⟨p, xs, rfl, h, r⟩ := rep_rdl r1
    exact ⟨p, xs, rfl, Same.seq R1.fh h, fun l hl => ok_new R R1 st1 r.reverse q1 hl⟩
  | _ => exact q1.elim
/-! ### a dict's display, frozen -/
def keysD : List (D × D) → Option (List Key)
  | [] => some []
  | (d, _) :: r => (keyD d).bind fun k => (keysD r).map fun ks => k :: ks
def mDsp (f : Mo (List (D × D))) : Mo D := bnd f fun qs => lft ((keysD qs).bind fun ks => if ks.Nodup ∧ qs.length ≤ 15 then some (.dk ks (qs.map (·.2))) else none)
theorem keys_of2 {K : PySem.W.Frag} {F : Hp} : ∀ {ps : List (V × V)} {qs : List (D × D)} {ks : List Key}, RepPs K F ps qs → keysD qs = some ks → ∃ kvs : List (Key × V), ps = kvs.map (fun kv => (kV kv.1, kv.2)) ∧ kvs.map (·.1) = ks ∧ RepL K F (kvs.map (·.2)) (qs.map (·.2)) ∧ kvs.length = qs.length
  | _, _, _, .nil, h => by cases h; exact ⟨[], rfl, rfl, .nil, rfl⟩
  | _, (d, e) :: qs, ks, .cons h1 h2 r, hk => by
    simp only [keysD, Option.bind_eq_some_iff, Option.map_eq_some_iff] at hk
    obtain ⟨k, e0, ks', e1, rfl⟩ := hk
    obtain ⟨kvs, q1, q2, q3, q4⟩ := keys_of2 r e1
    rename_i x y ps
    refine ⟨(k, y) :: kvs, ?_, by simp [q2], .cons h2 q3, by simp [q4]⟩
    rw [q1, keyD_rep h1 e0]; rfl
theorem putK_new {kvs : List (Key × V)} {k : Key} {v : V} (h : k ∉ kvs.map (·.1)) : putK kvs k v = kvs ++ [(k, v)] := by
  unfold putK
  rw [if_neg]
  intro z
  rw [List.any_eq_true] at z
  obtain ⟨kv, hm, hk⟩ := z
  exact h ((of_decide_eq_true hk) ▸ List.mem_map.mpr ⟨kv, hm, rfl⟩)
theorem merge_new : ∀ (more kvs : List (Key × V)), ((kvs ++ more).map (·.1)).Nodup → mergeK kvs more = kvs ++ more
  | [], kvs, _ => by simp [mergeK]
  | (k, v) :: r, kvs, h => by
    have h1 : k ∉ kvs.map (·.1) := by
      rw [List.map_append, List.map_cons] at h
      intro z
      exact (List.nodup_append.mp h).2.2 _ z _ (List.mem_cons_self ..) rfl
    have e : mergeK kvs ((k, v) :: r) = mergeK (putK kvs k v) r := rfl
    rw [e, putK_new h1, merge_new r (kvs ++ [(k, v)]) (by rw [List.append_assoc]; exact h), List.append_assoc]
    rfl
theorem ev_dsp {keys : List (Option Expr)} {vals : List Expr} {h : Mo (List (D × D))} (hp : EpD X C W pos keys vals h) (hd : ∀ trs, PPs X pos keys vals trs → PE X e (tDisp trs)) : EvD X C W e (mDsp h) := by
  obtain ⟨trs, p, s⟩ := hp
  refine ⟨_, hd _ p, fun F H σ ε Q R q => ?_⟩
  intro p0 hp0
  obtain ⟨n1, n2, n3⟩ := R.newApart hp0
  have R0 := R.loose (.dK []) hp0
  have st0 : Stp σ ε ε F H F (upd H p0 (.dK [])) := (Ste.loose R.fh hp0).stp
  refine s F _ σ ε _ R0 (q.bind.imp (fun qs e q1 ps F1 H1 R1 st1 r1 => ?_) fun x e z => z.imp st0)
  unfold lft at q1
  cases hk : keysD qs with
  | none => rw [hk] at q1; exact q1.elim
  | some ks =>
    rw [hk, Option.bind_some] at q1
    by_cases hc : ks.Nodup ∧ qs.length ≤ 15
    · rw [if_pos hc] at q1
      obtain ⟨kvs, e1, e2, e3, e4⟩ := keys_of2 r1 hk
      have h1 : H1 p0 = some (.dK []) := st1.hh p0 _ upd_same n3
      have f1 : F1 p0 = none := (st1.old p0 (by rw [upd_same]; exact fun z => by cases z) n3).trans n1
      refine ⟨h1, kvs, e1, by rw [e4]; exact hc.2, ?_⟩
      have em : mergeK [] kvs = kvs := by
        have := merge_new kvs [] (by rw [List.nil_append, e2]; exact hc.1)
        rwa [List.nil_append] at this
      rw [em]
      have ap := st1.ap p0 n3
      have R2 := (R1.poke (o := .dK kvs) f1 n2 ap).freeze (l := p0) (o := .dK kvs) upd_same f1 n2 ap
      have st2 := st0.trans st1
      have ne : ∀ b, H b ≠ none → b ≠ p0 := fun b hb z => hb (by rw [z]; exact hp0)
      exact q1 (.ref p0) _ _ R2 ⟨st2.ff.trans (same_upd f1), fun b o hb p => by
          rw [upd_ne (ne b (by rw [hb]; exact fun z => by cases z))]; exact st2.hh b o hb p, fun b hb p => by
          rw [upd_ne (ne b hb)]; exact st2.old b hb p, st2.ap, fun b hb => by
          rw [upd_ne (ne b hb)]; exact st2.tr b hb⟩ (.dk upd_same e2 (e3.mono (same_upd f1)))
    · rw [if_neg hc] at q1; exact q1.elim
/-! ### d.get(k, x), d read -/
def getD2 (ks : List Key) (ds : List D) (d z : D) : Option D := (keyD d).map fun k => (valQ (ks.zip ds) k).getD z
def mGet2 (f g h : Mo D) : Mo D := bnd f fun c => match c with
  | .dk ks ds => bnd g fun d => bnd h fun z => lft (getD2 ks ds d z)
  | _ => lft none
theorem RepQ.none {K : PySem.W.Frag} {F : Hp} {κ : Type} [DecidableEq κ] {kvs : List (κ × V)} {qs : List (κ × D)} {k : κ} (h : RepQ K F kvs qs) (e : valQ qs k = none) : valV kvs k = none := by
  cases hv : valV kvs k with
  | none => rfl
  | some v =>
    have ha := RepQ.any k h
    have : (kvs.any fun kv => decide (kv.1 = k)) = true := by
      unfold valV at hv
      simp only [Option.map_eq_some_iff] at hv
      obtain ⟨a, h1, h2⟩ := hv
      rw [List.any_eq_true]
      have hm := List.mem_of_find?_eq_some h1
      exact ⟨a, hm, by simpa using List.find?_some h1⟩
    rw [this] at ha
    have ha := ha.symm
    rw [List.any_eq_true] at ha
    obtain ⟨q, hm, hk⟩ := ha
    unfold valQ at e
    rw [Option.map_eq_none_iff, List.find?_eq_none] at e
    exact absurd hk (e q hm)
theorem ev_get2 {o k z e : Expr} (ho : EvD X C W o f) (hk : EvD X C W k g) (hz : EvD X C W z h) (hp : ∀ to tk tz, PE X o to → PE X k tk → PE X z tz → PE X e (tDGet2 to tk tz)) : EvD X C W e (mGet2 f g h) := by
  obtain ⟨to, p1, s1⟩ := ho
  obtain ⟨tk, p2, s2⟩ := hk
  obtain ⟨tz, p3, s3⟩ := hz
  refine ⟨_, hp _ _ _ p1 p2 p3, fun F H σ ε Q R q => ?_⟩
  refine s1 F H σ ε _ R (q.bind.imp (fun c e1 q1 v1 F1 H1 R1 st1 r1 => ?_) fun x e z => z)
  cases c with
  | dk ks ds =>
    cases r1 with
    | dk y1 y2 y3 =>
      rename_i a kvs
      refine ⟨a, rfl, .inl ⟨kvs, .inl (R1.fh _ _ y1)⟩, ?_⟩
      refine s2 F1 H1 σ e1 _ R1 (Good.bind q1 |>.imp (fun d e2 q2 v2 F2 H2 R2 st2 r2 => ?_) fun x e z => z.imp st1)
      refine s3 F2 H2 σ e2 _ R2 (q2.bind.imp (fun dz e3 q3 v3 F3 H3 R3 st3 r3 => ?_) fun x e z => z.imp (st1.trans st2))
      unfold lft getD2 at q3
      cases hd : keyD d with
      | none => rw [hd] at q3; exact q3.elim
      | some k =>
        rw [hd, Option.map_some] at q3
        dsimp only at q3
        have rq : RepQ X.K F3 kvs (ks.zip ds) := RepQ.zip y2 ((y3.mono st2.ff).mono st3.ff)
        have ha : H3 a = some (.dK kvs) := R3.fh _ _ (st3.ff _ _ (st2.ff _ _ y1))
        have hv2 := keyD_rep (r2.mono st3.ff) hd
        refine ⟨valV kvs k, by rw [hv2]; exact DGet.k ha, ?_⟩
        cases hv : valQ (ks.zip ds) k with
        | none =>
          rw [RepQ.none rq hv]
          rw [hv] at q3
          exact q3 v3 F3 H3 R3 ((st1.trans st2).trans st3) r3
        | some w =>
          obtain ⟨u, e4, r4⟩ := rq.val hv
          rw [e4]
          rw [hv] at q3
          exact q3 u F3 H3 R3 ((st1.trans st2).trans st3) r4
  | _ => exact q1.elim
end
end DL

set_option Elab.async false
set_option linter.all false
set_option maxRecDepth 100000
namespace DL
open PySem PySem.Spec L2
/-! ### defs with several arguments that they change -/
def ArgOk (K : PySem.W.Frag) (F H : Hp) (v : V) : Ent → Prop
  | .dat d => RepD K F v d
  | .io ds => ∃ l us, v = .ref l ∧ H l = some (.lst us) ∧ F l = none ∧ RepL K F us ds
  | .ib b => ∃ l o, v = .ref l ∧ H l = some o ∧ F l = none ∧ RepO K F o b
  | _ => False
def MutAt (vs : List V) (es : List Ent) (b : Addr) : Prop := ∃ (i : Nat) (e : Ent), vs[i]? = some (.ref b) ∧ es[i]? = some e ∧ e.mut = true
structure Args (K : PySem.W.Frag) (F H : Hp) (vs : List V) (es : List Ent) : Prop where
  len : vs.length = es.length
  ok : ∀ (i : Nat) (e : Ent), es[i]? = some e → ∃ v, vs[i]? = some v ∧ ArgOk K F H v e
  dis : ∀ (i j : Nat) (l : Addr) (e e' : Ent), vs[i]? = some (.ref l) → vs[j]? = some (.ref l) → es[i]? = some e → es[j]? = some e' → e.mut = true → e'.mut = true → i = j
/-- a changed argument is of the kind that it was -/
def sameK : Ent → Ent → Bool
  | .dat _, _ => true
  | .io _, .io _ => true
  | .ib _, .ib _ => true
  | _, _ => false
def kinds : List Ent → List Ent → Bool
  | [], [] => true
  | e :: r, e' :: r' => sameK e e' && kinds r r'
  | _, _ => false
theorem kinds_at : ∀ {es es' : List Ent}, kinds es es' = true → ∀ {i : Nat} {e : Ent}, es[i]? = some e → ∃ e', es'[i]? = some e' ∧ sameK e e' = true
  | [], [], _, i, e, h => by simp at h
  | a :: r, a' :: r', h, 0, e, he => by
    cases he
    unfold kinds at h
    rw [Bool.and_eq_true] at h
    exact ⟨a', rfl, h.1⟩
  | a :: r, a' :: r', h, i + 1, e, he => by
    unfold kinds at h
    rw [Bool.and_eq_true] at h
    rw [List.getElem?_cons_succ] at he ⊢
    exact kinds_at h.2 he
  | [], _ :: _, h, _, _, _ => by cases h
  | _ :: _, [], h, _, _, _ => by cases h
structure Aft (K : PySem.W.Frag) (F H F' H' : Hp) (vs : List V) (es es' : List Ent) : Prop where
  ff : Same F F'
  fh : Same F' H'
  hh : ∀ b o, H b = some o → ¬ MutAt vs es b → H' b = some o
  old : ∀ b, H b ≠ none → F' b = F b
  tr : ∀ b, H b ≠ none → H' b ≠ none
  args : ∀ (i : Nat) (e : Ent), es[i]? = some e → e.mut = true → ∃ e' v, es'[i]? = some e' ∧ sameK e e' = true ∧ vs[i]? = some v ∧ ArgOk K F' H' v e'
def SpM (K : PySem.W.Frag) (n : Nat) (m : List Ent → Option (Ans × List Ent)) : Sp := fun vs H Q E => vs.length = n ∧ ∃ F es, Same F H ∧ Args K F H vs es ∧ match m es with
  | some (.ret d, es') => ∀ v F' H', Aft K F H F' H' vs es es' → RepD K F' v d → Q v H'
  | some (.exc x, es') => ∀ c od F' H', Aft K F H F' H' vs es es' → RepX K F' H' x c od → E c od H'
  | none => False
def envM (n : Nat) (es : List Ent) : List Ent := es ++ List.replicate (n - es.length) .un
/-- what comes back: the arguments that are not changed stand as they were passed -/
def normM : List Ent → List Ent → List Ent
  | .dat d :: r, _ :: r' => .dat d :: normM r r'
  | _ :: r, e' :: r' => e' :: normM r r'
  | _, _ => []
theorem norm_at : ∀ {es ε : List Ent} {i : Nat} {e e' : Ent}, es[i]? = some e → e.mut = true → ε[i]? = some e' → (normM es ε)[i]? = some e'
  | [], _, _, _, _, h, _, _ => by simp at h
  | _ :: _, [], _, _, _, _, _, h => by simp at h
  | a :: r, b :: r', 0, e, e', h, hm, h' => by
    cases h; cases h'
    cases a <;> first | (cases hm; done) | rfl
  | a :: r, b :: r', i + 1, e, e', h, hm, h' => by
    rw [List.getElem?_cons_succ] at h h'
    have := norm_at h hm h'
    cases a <;> (unfold normM; rw [List.getElem?_cons_succ]; exact this)
def outM (es : List Ent) : Option ResS → Option (Ans × List Ent)
  | some (.nx ε) => if kinds es (ε.take es.length) = true then some (.ret .non, normM es ε) else none
  | some (.rt d ε) => if kinds es (ε.take es.length) = true then some (.ret d, normM es ε) else none
  | some (.ex x ε) => if kinds es (ε.take es.length) = true then some (.exc x, normM es ε) else none
  | _ => none
def runM (n : Nat) (g : MoS) (es : List Ent) : Option (Ans × List Ent) := outM es (g (envM n es))
/-- the addresses of the arguments that are changed -/
def adM (vs : List V) (es : List Ent) : Nat → Option Addr := fun i => match vs[i]?, es[i]? with
  | some (.ref l), some e => if e.mut = true then some l else none
  | _, _ => none
theorem adM_ne {vs : List V} {es : List Ent} {b : Addr} (h : ¬ MutAt vs es b) (j : Nat) : adM vs es j ≠ some b := fun z => by
  unfold adM at z
  split at z
  · rename_i l e h1 h2
    split at z
    · rename_i hm
      cases z
      exact h ⟨j, e, h1, h2, hm⟩
    · cases z
  · cases z
theorem argOk_mut {K : PySem.W.Frag} {F H : Hp} {v : V} {e : Ent} (h : ArgOk K F H v e) (hm : e.mut = true) : ∃ l, v = .ref l ∧ H l ≠ none ∧ F l = none := by
  cases e with
  | io ds => obtain ⟨l, us, a, b, c, _⟩ := h; exact ⟨l, a, (by rw [b]; intro z; cases z), c⟩
  | ib ds => obtain ⟨l, us, a, b, c, _⟩ := h; exact ⟨l, a, (by rw [b]; intro z; cases z), c⟩
  | own ds => exact h.elim
  | od b => exact h.elim
  | _ => cases hm
theorem rep_startM {K : PySem.W.Frag} {F H : Hp} {vs : List V} {es : List Ent} {N : List Str} (s : Same F H) (A : Args K F H vs es) :
    Rep K ⟨F, H, adM vs es, none⟩ F H (L2.start N vs) (envM N.length es) where
  fh := s
  ff := Same.refl F
  old := fun _ _ => rfl
  keep := fun _ _ h _ => h
  tr := fun _ h => h
  len := by
    have := A.len
    simp only [L2.start, envM, List.length_append, List.length_map, List.length_replicate]
    omega
  ent := fun i e he => by
    unfold envM at he
    unfold L2.start
    have hl := A.len
    by_cases hi : i < es.length
    · rw [List.getElem?_append_left hi] at he
      rw [List.getElem?_append_left (by rw [List.length_map, hl]; exact hi), List.getElem?_map]
      obtain ⟨v, h1, h2⟩ := A.ok i e he
      rw [h1]
      cases e with
      | dat d => exact ⟨v, rfl, h2⟩
      | io ds =>
        obtain ⟨l, us, rfl, b, c, d⟩ := h2
        exact ⟨l, us, rfl, b, c, d, by unfold adM; dsimp only; rw [h1, he]; rfl⟩
      | ib ob =>
        obtain ⟨l, o, rfl, b, c, d⟩ := h2
        exact ⟨l, o, rfl, b, c, d, by unfold adM; dsimp only; rw [h1, he]; rfl⟩
      | _ => exact h2.elim
    · rw [List.getElem?_append_right (by omega)] at he
      have := List.mem_of_getElem? he
      rw [List.eq_of_mem_replicate this]
      trivial
  dis := fun i j l e e' k1 k2 k3 k4 k5 k6 => by
    have hl := A.len
    have only : ∀ (i : Nat) (e : Ent), (envM N.length es)[i]? = some e → e.mut = true → es[i]? = some e := fun i e he hm => by
      unfold envM at he
      by_cases hi : i < es.length
      · rwa [List.getElem?_append_left hi] at he
      · exfalso
        rw [List.getElem?_append_right (by omega)] at he
        have hm2 := List.mem_of_getElem? he
        rw [List.eq_of_mem_replicate hm2] at hm
        cases hm
    have at_ : ∀ (i : Nat) (e : Ent), es[i]? = some e → (L2.start N vs)[i]? = some (some (.ref l)) → vs[i]? = some (.ref l) := fun i e he hs => by
      have hi : i < vs.length := by rw [hl]; exact (List.getElem?_eq_some_iff.mp he).1
      unfold L2.start at hs
      rw [List.getElem?_append_left (by rw [List.length_map]; exact hi), List.getElem?_map] at hs
      cases hv : vs[i]? with
      | none => rw [hv] at hs; cases hs
      | some v => rw [hv] at hs; cases hs; rfl
    exact A.dis i j l e e' (at_ i e (only i e k3 k5) k1) (at_ j e' (only j e' k4 k6) k2) (only i e k3 k5) (only j e' k4 k6) k5 k6
section
variable {P : Program} {w : World} {K : PySem.W.Frag} {mg : Str → Option Value} {base : Heap}
theorem fn_M {x qual : Str} {st : Stmt} {f : Addr} {fd : FuncData} {N ps : List Str} {k : Nat} {g : MoS} {m : List Ent → Option (Ans × List Ent)} (F : Fun K x qual st f fd) (S : FnScope N ps (defScope st))
    (hb : ∀ (cdv : Value) (A : Around) (outer : List Env) (s : Shared) (H : Hp) (E : XK) (C : Ct), Room k (A.deeper (PyProof.Rows.envOfC qual (defScope st) s.heap.objs.size f cdv)) → Takes (cxOf (L2.CX P w) P w K mg base N qual (defScope st) f cdv A outer s H E) (fun c d _ H' => E c d H') →
      SsD (cxOf (L2.CX P w) P w K mg base N qual (defScope st) f cdv A outer s H E) C (fun c d _ H' => E c d H') (defBody st) g)
    (hm : ∀ es a, es.length = ps.length → m es = some a → runM N.length g es = some a) : FnOk P w K mg base (CXX P w) (k + 1) f fd ps (SpM K ps.length m) := by
  refine F.okX S (fun vs H Q E h => h.1) (fun cdv A outer s H vs Q E hr h => ?_)
  obtain ⟨hl, F0, es, sF, ar, h⟩ := h
  obtain ⟨ts, p, sd⟩ := hb cdv A outer s H E ⟨F0, H, adM vs es, none⟩ hr (takes_of rfl rfl rfl rfl)
  refine ⟨ts, p, sd F0 H _ (envM N.length es) _ (rep_startM sF ar) ?_⟩
  cases hmd : m es with
  | none => rw [hmd] at h; exact h.elim
  | some a =>
    have ha := hm es a (by rw [← ar.len]; exact hl) hmd
    rw [hmd] at h
    unfold runM at ha
    have io : ∀ {F' H' σ' ε'}, Rep K ⟨F0, H, adM vs es, none⟩ F' H' σ' ε' → kinds es (ε'.take es.length) = true → Aft K F0 H F' H' vs es (normM es ε') := fun {F' H' σ' ε'} R hk =>
      ⟨R.ff, R.fh, fun b o e n => R.keep b o e (adM_ne n), R.old, R.tr, fun i e he hmu => by
        obtain ⟨e', h1, h2⟩ := kinds_at hk he
        obtain ⟨v, h3, h4⟩ := ar.ok i e he
        obtain ⟨l, rfl, _, _⟩ := argOk_mut h4 hmu
        have h5 : ε'[i]? = some e' := by
          rw [List.getElem?_take] at h1
          split at h1
          · exact h1
          · cases h1
        have q := R.ent i e' h5
        have had : adM vs es i = some l := by unfold adM; rw [h3, he]; dsimp only; rw [if_pos hmu]
        refine ⟨e', .ref l, norm_at he hmu h5, h2, h3, ?_⟩
        cases e' with
        | dat d => cases e <;> first | (cases hmu; done) | (cases h2; done)
        | io ds =>
          obtain ⟨l2, us, _, b, c, d, g1⟩ := q
          have g1 : adM vs es i = some l2 := g1
          rw [had] at g1; cases g1
          exact ⟨l, us, rfl, b, c, d⟩
        | ib ob =>
          obtain ⟨l2, o, _, b, c, d, g1⟩ := q
          have g1 : adM vs es i = some l2 := g1
          rw [had] at g1; cases g1
          exact ⟨l, o, rfl, b, c, d⟩
        | un => cases e <;> first | (cases hmu; done) | (cases h2; done)
        | xc => cases e <;> first | (cases hmu; done) | (cases h2; done)
        | own ds => cases e <;> first | (cases hmu; done) | (cases h2; done)
        | od ob => cases e <;> first | (cases hmu; done) | (cases h2; done)⟩
    unfold outM at ha
    cases hg : g (envM N.length es) with
    | none => rw [hg] at ha; cases ha
    | some r2 =>
      rw [hg] at ha
      cases r2 with
      | nx e =>
        dsimp only at ha
        split at ha
        · rename_i hk; cases ha
          exact fun F' H' σ' R s2 => h .non F' H' (io R hk) .non
        · cases ha
      | rt d e =>
        dsimp only at ha
        split at ha
        · rename_i hk; cases ha
          exact fun v F' H' σ' R s2 rv => h v F' H' (io R hk) rv
        · cases ha
      | ex x e =>
        dsimp only at ha
        split at ha
        · rename_i hk; cases ha
          exact fun c od F' H' σ' R s2 rx => h c od F' H' (io R hk) rx
        · cases ha
      | ro d e => cases ha
      | bk e => cases ha
      | ct e => cases ha
end
/-! the caller's side -/
abbrev Ag := D ⊕ Nat
def toArg : Ent → Option Ent
  | .own ds => some (.io ds)
  | .io ds => some (.io ds)
  | .od b => some (.ib b)
  | .ib b => some (.ib b)
  | _ => none
def ofArg : Ent → Ent → Ent
  | .own _, .io ds => .own ds
  | .io _, .io ds => .io ds
  | .od _, .ib b => .od b
  | .ib _, .ib b => .ib b
  | e, _ => e
def entsOf (ε : List Ent) : List Ag → Option (List Ent)
  | [] => some []
  | .inl d :: r => (entsOf ε r).map fun es => .dat d :: es
  | .inr i :: r => (ε[i]?).bind fun e => (toArg e).bind fun e' => (entsOf ε r).map fun es => e' :: es
def slotsM : List Ag → List Nat
  | [] => []
  | .inl _ :: r => slotsM r
  | .inr i :: r => i :: slotsM r
/-- what comes back to slot j -/
def backM (j : Nat) (e : Ent) : List Ag → List Ent → Ent
  | .inl _ :: r, _ :: es => backM j e r es
  | .inr i :: r, e' :: es => if i = j then ofArg e e' else backM j e r es
  | _, _ => e
def putM (ε : List Ent) (as : List Ag) (es : List Ent) : List Ent := ε.mapIdx fun j e => backM j e as es
def RelAg (K : PySem.W.Frag) (F : Hp) (σ : St) (v : V) : Ag → Prop
  | .inl d => RepD K F v d
  | .inr i => σ[i]? = some (some v)
def RelAs (K : PySem.W.Frag) (F : Hp) (σ : St) (vs : List V) (as : List Ag) : Prop := vs.length = as.length ∧ ∀ (k : Nat) (a : Ag), as[k]? = some a → ∃ v, vs[k]? = some v ∧ RelAg K F σ v a
def EntAt (ε es : List Ent) (k : Nat) : Ag → Prop
  | .inl d => es[k]? = some (.dat d)
  | .inr i => ∃ e e' : Ent, ε[i]? = some e ∧ toArg e = some e' ∧ es[k]? = some e'
theorem entAt_succ {ε es : List Ent} {e : Ent} {k : Nat} {a : Ag} (h : EntAt ε es k a) : EntAt ε (e :: es) (k + 1) a := by
  cases a with
  | inl d => exact h
  | inr i => exact h
theorem ents_at {ε : List Ent} : ∀ {as : List Ag} {es : List Ent}, entsOf ε as = some es → es.length = as.length ∧ ∀ (k : Nat) (a : Ag), as[k]? = some a → EntAt ε es k a
  | [], es, h => by cases h; exact ⟨rfl, fun k a h => by simp at h⟩
  | .inl d :: r, es, h => by
    simp only [entsOf, Option.map_eq_some_iff] at h
    obtain ⟨es', h1, rfl⟩ := h
    obtain ⟨l, q⟩ := ents_at h1
    refine ⟨by simp [l], fun k a ha => ?_⟩
    cases k with
    | zero => cases ha; rfl
    | succ k => rw [List.getElem?_cons_succ] at ha; exact entAt_succ (q k a ha)
  | .inr i :: r, es, h => by
    simp only [entsOf, Option.bind_eq_some_iff, Option.map_eq_some_iff] at h
    obtain ⟨e, h0, e', h2, es', h1, rfl⟩ := h
    obtain ⟨l, q⟩ := ents_at h1
    refine ⟨by simp [l], fun k a ha => ?_⟩
    cases k with
    | zero => cases ha; exact ⟨e, e', h0, h2, rfl⟩
    | succ k => rw [List.getElem?_cons_succ] at ha; exact entAt_succ (q k a ha)
theorem toArg_mut {e e' : Ent} (h : toArg e = some e') : e.mut = true ∧ e'.mut = true := by
  cases e <;> first | (cases h; exact ⟨rfl, rfl⟩) | cases h
theorem slots_at : ∀ {as : List Ag} {i : Nat}, i ∈ slotsM as → ∃ k : Nat, as[k]? = some (.inr i)
  | [], i, h => by cases h
  | .inl _ :: r, i, h => by
    obtain ⟨k, hk⟩ := slots_at (as := r) h
    exact ⟨k + 1, by rw [List.getElem?_cons_succ]; exact hk⟩
  | .inr j :: r, i, h => by
    rcases List.mem_cons.mp h with rfl | h
    · exact ⟨0, rfl⟩
    · obtain ⟨k, hk⟩ := slots_at h
      exact ⟨k + 1, by rw [List.getElem?_cons_succ]; exact hk⟩
theorem at_slots : ∀ {as : List Ag} {i k : Nat}, as[k]? = some (.inr i) → i ∈ slotsM as
  | [], i, k, h => by simp at h
  | .inl _ :: r, i, 0, h => by cases h
  | .inr j :: r, i, 0, h => by cases h; exact List.mem_cons_self ..
  | .inl _ :: r, i, k + 1, h => by rw [List.getElem?_cons_succ] at h; exact at_slots (as := r) h
  | .inr j :: r, i, k + 1, h => by rw [List.getElem?_cons_succ] at h; exact List.mem_cons_of_mem _ (at_slots h)
theorem slots_inj : ∀ {as : List Ag} {i k k' : Nat}, (slotsM as).Nodup → as[k]? = some (.inr i) → as[k']? = some (.inr i) → k = k'
  | [], i, k, k', _, h, _ => by simp at h
  | .inl _ :: r, i, 0, _, _, h, _ => by cases h
  | .inl _ :: r, i, _ + 1, 0, _, _, h => by cases h
  | .inl _ :: r, i, k + 1, k' + 1, n, h, h' => by
    rw [List.getElem?_cons_succ] at h h'
    rw [slots_inj (as := r) n h h']
  | .inr j :: r, i, 0, 0, _, _, _ => rfl
  | .inr j :: r, i, 0, k' + 1, n, h, h' => by
    cases h
    rw [List.getElem?_cons_succ] at h'
    exact absurd (at_slots h') (List.nodup_cons.mp n).1
  | .inr j :: r, i, k + 1, 0, n, h, h' => by
    cases h'
    rw [List.getElem?_cons_succ] at h
    exact absurd (at_slots h) (List.nodup_cons.mp n).1
  | .inr j :: r, i, k + 1, k' + 1, n, h, h' => by
    rw [List.getElem?_cons_succ] at h h'
    rw [slots_inj (List.nodup_cons.mp n).2 h h']
theorem back_at : ∀ {as : List Ag} {es : List Ent} {j k : Nat} {e e' : Ent}, (slotsM as).Nodup → as[k]? = some (.inr j) → es[k]? = some e' → backM j e as es = ofArg e e'
  | [], _, _, _, _, _, _, h, _ => by simp at h
  | _ :: _, [], _, _, _, _, _, _, h => by simp at h
  | .inl _ :: r, _ :: es, j, 0, e, e', _, h, _ => by cases h
  | .inl _ :: r, _ :: es, j, k + 1, e, e', n, h, h' => by
    rw [List.getElem?_cons_succ] at h h'
    exact back_at (as := r) n h h'
  | .inr i :: r, _ :: es, j, 0, e, e', _, h, h' => by cases h; cases h'; simp [backM]
  | .inr i :: r, _ :: es, j, k + 1, e, e', n, h, h' => by
    rw [List.getElem?_cons_succ] at h h'
    have : i ≠ j := fun z => (List.nodup_cons.mp n).1 (z ▸ at_slots h)
    unfold backM
    rw [if_neg this]
    exact back_at (List.nodup_cons.mp n).2 h h'
theorem back_no : ∀ {as : List Ag} {es : List Ent} {j : Nat} {e : Ent}, j ∉ slotsM as → backM j e as es = e
  | [], es, _, _, _ => by cases es <;> rfl
  | .inl _ :: r, [], _, _, _ => rfl
  | .inr _ :: r, [], _, _, _ => rfl
  | .inl _ :: r, _ :: es, j, e, h => back_no (as := r) h
  | .inr i :: r, _ :: es, j, e, h => by
    have : i ≠ j := fun z => h (z ▸ List.mem_cons_self ..)
    unfold backM
    rw [if_neg this]
    exact back_no fun z => h (List.mem_cons_of_mem _ z)
theorem ofArg_mut (e e' : Ent) : (ofArg e e').mut = e.mut := by cases e <;> cases e' <;> rfl
theorem back_mut : ∀ (as : List Ag) (es : List Ent) (j : Nat) (e : Ent), (backM j e as es).mut = e.mut
  | [], es, _, _ => by cases es <;> rfl
  | .inl _ :: r, [], _, _ => rfl
  | .inr _ :: r, [], _, _ => rfl
  | .inl _ :: r, _ :: es, j, e => back_mut r es j e
  | .inr i :: r, e' :: es, j, e => by
    unfold backM
    split
    · exact ofArg_mut e e'
    · exact back_mut r es j e
section
variable {K : PySem.W.Frag} {C : Ct} {F H F' H' : Hp} {σ : St} {ε : List Ent} {vs : List V} {as : List Ag} {es es' : List Ent}
theorem Rep.mutAt (R : Rep K C F H σ ε) {i : Nat} {e e' : Ent} (he : ε[i]? = some e) (ht : toArg e = some e') {v : V} (hv : σ[i]? = some (some v)) : ArgOk K F H v e' := by
  have q := R.ent i e he
  cases e with
  | own ds => cases ht; obtain ⟨l, us, a, b, c, d, _⟩ := q; rw [hv] at a; cases a; exact ⟨l, us, rfl, b, c, d⟩
  | io ds => cases ht; obtain ⟨l, us, a, b, c, d, _⟩ := q; rw [hv] at a; cases a; exact ⟨l, us, rfl, b, c, d⟩
  | od ds => cases ht; obtain ⟨l, us, a, b, c, d, _⟩ := q; rw [hv] at a; cases a; exact ⟨l, us, rfl, b, c, d⟩
  | ib ds => cases ht; obtain ⟨l, us, a, b, c, d, _⟩ := q; rw [hv] at a; cases a; exact ⟨l, us, rfl, b, c, d⟩
  | _ => cases ht
theorem Rep.argsM (R : Rep K C F H σ ε) (hr : RelAs K F σ vs as) (he : entsOf ε as = some es) (hn : (slotsM as).Nodup) : Args K F H vs es := by
  obtain ⟨hl, hv⟩ := hr
  obtain ⟨el, ea⟩ := ents_at he
  refine ⟨by omega, fun k e hk => ?_, fun k k' l e e' h1 h2 h3 h4 h5 h6 => ?_⟩
  · have hk2 : k < as.length := by rw [← el]; exact (List.getElem?_eq_some_iff.mp hk).1
    obtain ⟨v, q1, q2⟩ := hv k as[k] (List.getElem?_eq_getElem hk2)
    have q3 := ea k as[k] (List.getElem?_eq_getElem hk2)
    refine ⟨v, q1, ?_⟩
    cases ha : as[k] with
    | inl d => rw [ha] at q2 q3; have q3 : es[k]? = some (.dat d) := q3; rw [hk] at q3; cases q3; exact q2
    | inr i =>
      rw [ha] at q2 q3
      obtain ⟨e0, e1, g1, g2, g3⟩ := q3
      rw [hk] at g3; cases g3
      exact R.mutAt g1 g2 q2
  · have slot : ∀ (k : Nat) (e : Ent), es[k]? = some e → e.mut = true → vs[k]? = some (.ref l) → ∃ (i : Nat) (e0 : Ent), as[k]? = some (.inr i) ∧ ε[i]? = some e0 ∧ e0.mut = true ∧ σ[i]? = some (some (.ref l)) := fun k e hk hm hx => by
      have hk2 : k < as.length := by rw [← el]; exact (List.getElem?_eq_some_iff.mp hk).1
      obtain ⟨v, q1, q2⟩ := hv k as[k] (List.getElem?_eq_getElem hk2)
      have q3 := ea k as[k] (List.getElem?_eq_getElem hk2)
      rw [hx] at q1; cases q1
      cases ha : as[k] with
      | inl d => rw [ha] at q3; have q3 : es[k]? = some (.dat d) := q3; rw [hk] at q3; cases q3; cases hm
      | inr i =>
        rw [ha] at q2 q3
        obtain ⟨e0, e1, g1, g2, g3⟩ := q3
        exact ⟨i, e0, by rw [List.getElem?_eq_getElem hk2, ha], g1, (toArg_mut g2).1, q2⟩
    obtain ⟨i, e0, a1, a2, a3, a4⟩ := slot k e h3 h5 h1
    obtain ⟨i', e0', b1, b2, b3, b4⟩ := slot k' e' h4 h6 h2
    have := R.dis i i' l e0 e0' a4 b4 a2 b2 a3 b3
    subst this
    exact slots_inj hn a1 b1
theorem Rep.mut_slot (R : Rep K C F H σ ε) (hr : RelAs K F σ vs as) (he : entsOf ε as = some es) {b : Addr} (h : MutAt vs es b) : ∃ (i : Nat) (e0 : Ent), i ∈ slotsM as ∧ ε[i]? = some e0 ∧ e0.mut = true ∧ σ[i]? = some (some (.ref b)) := by
  obtain ⟨k, e, h1, h2, h3⟩ := h
  obtain ⟨hl, hv⟩ := hr
  obtain ⟨el, ea⟩ := ents_at he
  have hk2 : k < as.length := by rw [← el]; exact (List.getElem?_eq_some_iff.mp h2).1
  obtain ⟨v, q1, q2⟩ := hv k as[k] (List.getElem?_eq_getElem hk2)
  have q3 := ea k as[k] (List.getElem?_eq_getElem hk2)
  rw [h1] at q1; cases q1
  cases ha : as[k] with
  | inl d => rw [ha] at q3; have q3 : es[k]? = some (.dat d) := q3; rw [h2] at q3; cases q3; cases h3
  | inr i =>
    rw [ha] at q2 q3
    obtain ⟨e0, e1, g1, g2, g3⟩ := q3
    exact ⟨i, e0, at_slots (k := k) (by rw [List.getElem?_eq_getElem hk2, ha]), g1, (toArg_mut g2).1, q2⟩
theorem Rep.callM (R : Rep K C F H σ ε) (hr : RelAs K F σ vs as) (he : entsOf ε as = some es) (hn : (slotsM as).Nodup) (A : Aft K F H F' H' vs es es') :
    Rep K C F' H' σ (putM ε as es') ∧ Stp σ ε (putM ε as es') F H F' H' := by
  obtain ⟨el, ea⟩ := ents_at he
  have mutE : ∀ b, MutAt vs es b → ∃ (i : Nat) (e0 : Ent), ε[i]? = some e0 ∧ e0.mut = true ∧ σ[i]? = some (some (.ref b)) := fun b h => by
    obtain ⟨i, e0, _, q⟩ := R.mut_slot hr he h
    exact ⟨i, e0, q⟩
  have get : ∀ (j : Nat), (putM ε as es')[j]? = (ε[j]?).map fun e => backM j e as es' := fun j => by
    unfold putM; rw [List.getElem?_mapIdx]
  have apn : ∀ b, Apart σ ε b → ¬ MutAt vs es b := fun b p h => by
    obtain ⟨i, e0, q1, q2, q3⟩ := mutE b h
    rw [p i e0 q3 q1] at q2; cases q2
  refine ⟨⟨A.fh, R.ff.trans A.ff, fun b h => (A.old b (R.tr b h)).trans (R.old b h), fun b o h n => A.hh b o (R.keep b o h n) (fun z => ?_), fun b h => A.tr b (R.tr b h), ?_, fun j e hj => ?_, fun p q l e e' g1 g2 g3 g4 g5 g6 => ?_⟩, ⟨A.ff, fun b o h p => A.hh b o h (apn b p), fun b h _ => A.old b h, fun b p j e hj hj' => ?_, A.tr⟩⟩
  · obtain ⟨i, e0, q1, q2, q3⟩ := mutE b z
    have q := R.ent i e0 q1
    cases e0 with
    | own ds => obtain ⟨l, us, a, _, _, _, g⟩ := q; rw [q3] at a; cases a; rw [h] at g; cases g
    | od ds => obtain ⟨l, us, a, _, _, _, g⟩ := q; rw [q3] at a; cases a; rw [h] at g; cases g
    | io ds => obtain ⟨l, us, a, _, _, _, g⟩ := q; rw [q3] at a; cases a; exact n _ g
    | ib ds => obtain ⟨l, us, a, _, _, _, g⟩ := q; rw [q3] at a; cases a; exact n _ g
    | _ => cases q2
  · unfold putM; rw [List.length_mapIdx]; exact R.len
  · rw [get j] at hj
    cases h0 : ε[j]? with
    | none => rw [h0] at hj; cases hj
    | some e0 =>
      rw [h0] at hj
      cases hj
      show EntOk K C F' H' j σ[j]? (backM j e0 as es')
      by_cases hs : j ∈ slotsM as
      · obtain ⟨k, hk⟩ := slots_at hs
        have q3 := ea k (.inr j) hk
        obtain ⟨e1, e2, g1, g2, g3⟩ := q3
        rw [h0] at g1; cases g1
        obtain ⟨hl, hv⟩ := hr
        obtain ⟨v, v1, v2⟩ := hv k (.inr j) hk
        obtain ⟨e3, w, a1, a2, a3, a4⟩ := A.args k e2 g3 (toArg_mut g2).2
        rw [v1] at a3; cases a3
        rw [back_at hn hk a1]
        have q := R.ent j e0 h0
        cases e0 with
        | own ds =>
          cases g2
          obtain ⟨l, us, b1, b2, b3, b4, b5⟩ := q
          cases e3 <;> first | (cases a2; done) | skip
          obtain ⟨l2, us2, c1, c2, c3, c4⟩ := a4
          rw [v2, c1] at b1; cases b1
          exact ⟨l, us2, by rw [v2, c1], c2, c3, c4, b5⟩
        | io ds =>
          cases g2
          obtain ⟨l, us, b1, b2, b3, b4, b5⟩ := q
          cases e3 <;> first | (cases a2; done) | skip
          obtain ⟨l2, us2, c1, c2, c3, c4⟩ := a4
          rw [v2, c1] at b1; cases b1
          exact ⟨l, us2, by rw [v2, c1], c2, c3, c4, b5⟩
        | od ds =>
          cases g2
          obtain ⟨l, us, b1, b2, b3, b4, b5⟩ := q
          cases e3 <;> first | (cases a2; done) | skip
          obtain ⟨l2, us2, c1, c2, c3, c4⟩ := a4
          rw [v2, c1] at b1; cases b1
          exact ⟨l, us2, by rw [v2, c1], c2, c3, c4, b5⟩
        | ib ds =>
          cases g2
          obtain ⟨l, us, b1, b2, b3, b4, b5⟩ := q
          cases e3 <;> first | (cases a2; done) | skip
          obtain ⟨l2, us2, c1, c2, c3, c4⟩ := a4
          rw [v2, c1] at b1; cases b1
          exact ⟨l, us2, by rw [v2, c1], c2, c3, c4, b5⟩
        | _ => cases g2
      · rw [back_no hs]
        have far : ∀ l, σ[j]? = some (some (.ref l)) → e0.mut = true → ¬ MutAt vs es l := fun l hl hm z => by
          obtain ⟨i, e1, q0, q1, q2, q3⟩ := R.mut_slot hr he z
          have := R.dis i j l e1 e0 q3 hl q1 h0 q2 hm
          exact hs (this ▸ q0)
        have q := R.ent j e0 h0
        cases e0 with
        | un => trivial
        | xc => exact q
        | dat d => obtain ⟨v, a, b⟩ := q; exact ⟨v, a, b.mono A.ff⟩
        | own ds =>
          obtain ⟨l, us, a, b, c, d, g⟩ := q
          exact ⟨l, us, a, A.hh _ _ b (far l a rfl), (A.old l (by rw [b]; exact fun z => by cases z)).trans c, d.mono A.ff, g⟩
        | io ds =>
          obtain ⟨l, us, a, b, c, d, g⟩ := q
          exact ⟨l, us, a, A.hh _ _ b (far l a rfl), (A.old l (by rw [b]; exact fun z => by cases z)).trans c, d.mono A.ff, g⟩
        | od ob =>
          obtain ⟨l, o, a, b, c, d, g⟩ := q
          exact ⟨l, o, a, A.hh _ _ b (far l a rfl), (A.old l (by rw [b]; exact fun z => by cases z)).trans c, RepO.mono A.ff d, g⟩
        | ib ob =>
          obtain ⟨l, o, a, b, c, d, g⟩ := q
          exact ⟨l, o, a, A.hh _ _ b (far l a rfl), (A.old l (by rw [b]; exact fun z => by cases z)).trans c, RepO.mono A.ff d, g⟩
  · rw [get p] at g3
    rw [get q] at g4
    cases h3 : ε[p]? with
    | none => rw [h3] at g3; cases g3
    | some a =>
      cases h4 : ε[q]? with
      | none => rw [h4] at g4; cases g4
      | some b =>
        rw [h3] at g3; cases g3
        rw [h4] at g4; cases g4
        have g5 : (backM p a as es').mut = true := g5
        have g6 : (backM q b as es').mut = true := g6
        rw [back_mut] at g5 g6
        exact R.dis p q l a b g1 g2 h3 h4 g5 g6
  · rw [get j] at hj'
    cases h3 : ε[j]? with
    | none => rw [h3] at hj'; cases hj'
    | some a =>
      rw [h3] at hj'; cases hj'
      show (backM j a as es').mut = false
      rw [back_mut]
      exact p j a hj h3
end
section
variable {X : Cx} {C : Ct} {W : WX} {e : Expr} {f : Mo D}
def EmD (X : Cx) (C : Ct) (W : WX) (es : List Expr) (f : Mo (List Ag)) : Prop := ∃ te, PA X es te ∧ ∀ F H σ ε Q, Rep X.K C F H σ ε →
  Good (f ε) (fun as ε' => ∀ vs F' H', Rep X.K C F' H' σ ε' → Stp σ ε ε' F H F' H' → RelAs X.K F' σ vs as → Q vs H') (ExP X.K C W F H σ ε) → te σ H Q
theorem em_nil : EmD X C W [] (pur []) := ⟨_, pa_nil, fun F H σ ε Q R q => q [] F H R Stp.refl ⟨rfl, fun k a h => by simp at h⟩⟩
def mAgD (f : Mo D) (g : Mo (List Ag)) : Mo (List Ag) := bnd f fun d => bnd g fun as => pur (.inl d :: as)
def mAgS (i : Nat) (g : Mo (List Ag)) : Mo (List Ag) := fun ε => match (ε[i]?).bind toArg with
  | some _ => bnd g (fun as => pur (.inr i :: as)) ε
  | none => none
theorem em_dat {es : List Expr} {g : Mo (List Ag)} (he : EvD X C W e f) (hr : EmD X C W es g) (hs : starEach (e :: es) X.env = (false, eval e X.env) :: starEach es X.env := by rfl) : EmD X C W (e :: es) (mAgD f g) := by
  obtain ⟨te, p1, s1⟩ := he
  obtain ⟨tr, p2, s2⟩ := hr
  refine ⟨_, pa_cons p1 p2 hs, fun F H σ ε Q R q => ?_⟩
  refine s1 F H σ ε _ R (q.bind.imp (fun d e q1 v F1 H1 R1 st1 r1 => ?_) fun x e z => z)
  refine s2 F1 H1 σ e _ R1 (q1.bind.imp (fun as e2 q2 vs F2 H2 R2 st2 r2 => ?_) fun x e z => z.imp st1)
  refine q2 (v :: vs) F2 H2 R2 (st1.trans st2) ⟨by simp [r2.1], fun k a hk => ?_⟩
  cases k with
  | zero => cases hk; exact ⟨v, rfl, r1.mono st2.ff⟩
  | succ k => rw [List.getElem?_cons_succ] at hk ⊢; exact r2.2 k a hk
theorem em_slot {es : List Expr} {g : Mo (List Ag)} (i : Nat) (he : PE X e (tVar i)) (hr : EmD X C W es g) (hs : starEach (e :: es) X.env = (false, eval e X.env) :: starEach es X.env := by rfl) : EmD X C W (e :: es) (mAgS i g) := by
  obtain ⟨tr, p2, s2⟩ := hr
  refine ⟨_, pa_cons he p2 hs, fun F H σ ε Q R q => ?_⟩
  unfold mAgS at q
  cases h0 : ε[i]? with
  | none => rw [h0] at q; exact q.elim
  | some e0 =>
    rw [h0, Option.bind_some] at q
    cases h1 : toArg e0 with
    | none => rw [h1] at q; exact q.elim
    | some e1 =>
      rw [h1] at q
      dsimp only at q
      have hv : ∃ v, σ[i]? = some (some v) := by
        have := R.ent i e0 h0
        cases e0 with
        | own ds => obtain ⟨l, us, a, _⟩ := this; exact ⟨_, a⟩
        | io ds => obtain ⟨l, us, a, _⟩ := this; exact ⟨_, a⟩
        | od ds => obtain ⟨l, us, a, _⟩ := this; exact ⟨_, a⟩
        | ib ds => obtain ⟨l, us, a, _⟩ := this; exact ⟨_, a⟩
        | _ => cases h1
      obtain ⟨v, hv⟩ := hv
      refine ⟨v, hv, ?_⟩
      refine s2 F H σ ε _ R (q.bind.imp (fun as e2 q2 vs F2 H2 R2 st2 r2 => ?_) fun x e z => z)
      refine q2 (v :: vs) F2 H2 R2 st2 ⟨by simp [r2.1], fun k a hk => ?_⟩
      cases k with
      | zero => cases hk; exact ⟨v, rfl, hv⟩
      | succ k => rw [List.getElem?_cons_succ] at hk ⊢; exact r2.2 k a hk
def ansMM (ε : List Ent) (as : List Ag) : Option (Ans × List Ent) → Option (Res D)
  | some (.ret d, es') => some (.ok d (putM ε as es'))
  | some (.exc x, es') => some (.ex x (putM ε as es'))
  | none => none
def mFnM (n : Nat) (m : List Ent → Option (Ans × List Ent)) (f : Mo (List Ag)) : Mo D := bnd f fun as ε => if as.length = n ∧ (slotsM as).Nodup then (match entsOf ε as with
  | some es => ansMM ε as (m es)
  | none => none) else none
theorem ev_fnM {n : Nat} {m : List Ent → Option (Ans × List Ent)} {es : List Expr} {fs : Mo (List Ag)} (ha : EmD X C W es fs) (hp : ∀ ta, PA X es ta → PE X e (tCallS (SpM X.K n m) (WE W) ta)) : EvD X C W e (mFnM n m fs) := by
  obtain ⟨ta, p1, s1⟩ := ha
  refine ⟨_, hp _ p1, fun F H σ ε Q R q => ?_⟩
  refine s1 F H σ ε _ R (q.bind.imp (fun as e q1 vs F1 H1 R1 st1 r1 => ?_) fun x e z => z)
  by_cases hl : as.length = n ∧ (slotsM as).Nodup
  · rw [if_pos hl] at q1
    cases he : entsOf e as with
    | none => rw [he] at q1; exact q1.elim
    | some es0 =>
      rw [he] at q1
      dsimp only at q1
      refine ⟨by rw [r1.1]; exact hl.1, F1, es0, R1.fh, R1.argsM r1 he hl.2, ?_⟩
      cases hm : m es0 with
      | none => rw [hm] at q1; exact q1.elim
      | some an =>
        rw [hm] at q1
        obtain ⟨an, es'⟩ := an
        cases an with
        | ret d =>
          intro v F' H' A r
          obtain ⟨R2, st2⟩ := R1.callM r1 he hl.2 A
          exact q1 v F' H' R2 (st1.trans st2) r
        | exc x =>
          intro c od F' H' A r
          obtain ⟨R2, st2⟩ := R1.callM r1 he hl.2 A
          exact q1 c od F' H' R2 (st1.trans st2) r
  · rw [if_neg hl] at q1; exact q1.elim
theorem cl_fnM {k n : Nat} {f : Addr} {fd : FuncData} {ps : List Str} {m : List Ent → Option (Ans × List Ent)} {x : Str} {p pos : Pos} {e : Expr} {es : List Expr} {fs : Mo (List Ag)} (F : FnOk X.prog X.w X.K X.mg X.base (L2.CX X.prog X.w) k f fd ps (SpM X.K n m)) (tk : Takes X W) (hr : Room k X.A) (hg : Gl X x) (hm : X.mg x = some (.ref f)) (hk : PySem.W.keepIn X.K (.ref f) = true) (hb : Binds X.K fd ps [])
    (ha : EmD X C W (e :: es) fs) (hdb : (x == ("__debug__" : Str)) = false := by decide) (he : starEach (e :: es) X.env = (false, eval e X.env) :: starEach es X.env := by rfl) (hpl : (backTo pos (starEach es X.env)).any (·.1) = false := by rfl) :
    EvD X C W (.Call (.Name x p) (e :: es) [] pos) (mFnM n m fs) := ev_fnM ha fun _ pa => pe_callS F hr hg hm hk hb (fun σ => passAt tk σ) pa hdb he hpl
end
end DL

set_option Elab.async false
set_option linter.all false
set_option maxRecDepth 100000
/-! a def that a suite hands its exception to -/
namespace DL
open PySem PySem.Spec L2
section
variable {X : Cx} {a D : Addr} {oe : Obj} {d : Option Addr}
theorem inst_xg (hp : (a, oe) ∈ X.pn) {pins : List (Addr × Obj)} {s : Shared} {σ : St} {H : Hp} (I : L2.Inv X pins σ H s) (hz : Zc (.ref D) d oe) (hf : ∃ vs, oe.data = .fields vs) (hx : XdOk H d) : ∃ od, PySem.W.InstAt s.heap a oe D od := by
  obtain ⟨hget, _⟩ := I.pin (a, oe) (List.mem_append_left _ hp)
  obtain ⟨vs, hv⟩ := hf
  have hn : PySem.W.notCls oe = true := by unfold PySem.W.notCls; rw [hv] <;> rfl
  cases d with
  | none => exact ⟨none, hget, hz.1, hn, by rw [hz.2]; trivial⟩
  | some dd =>
    obtain ⟨fs, hd⟩ := hx dd rfl
    have ob : ObjOk _ _ H s.heap dd (.xd fs) := I.hok dd _ hd
    obtain ⟨mA, hns, _⟩ := ob
    obtain ⟨od, ho, _⟩ := lookIn_ns hns
    exact ⟨some od, hget, hz.1, hn, by rw [hz.2]; exact ho⟩
theorem call_isXg (hp : (a, oe) ∈ X.pn) (T : ExcC X.K D) (hz : Zc (.ref D) d oe) (hf : ∃ vs, oe.data = .fields vs) : CallR X (.builtin "isinstance") (fun xs H Q => ∃ (c : V) (cv : Value) (b : Bool), xs = [.ref a, c] ∧ XdOk H d ∧ (∀ u, RelV c u → u = cv) ∧ PySem.W.kitOne X.K (.ref D) cv = some b ∧ Q (.bl b) H) := by
  intro pins s σ H xs us Q I r ⟨c, cv, b, e, hx, hcv, hk, q⟩
  subst e
  cases r with
  | cons r1 r2 =>
    cases r2 with
    | cons r3 r4 =>
      cases r4
      obtain ⟨od, J⟩ := inst_xg hp I hz hf hx
      have r1' := r1
      cases r1'
      exact PySem.W.kia_one (kitx_x T (fo_x T od)) I.kIn J (by rw [hcv _ r3]; exact hk) (fun z => by cases z) fun tk => ⟨.bl b, H, I.kept (fun _ _ h => h), rfl, q⟩
end
section
variable {X : Cx} {a : Addr} {oe : Obj} {cls : Value} {d : Option Addr} {C : Ct} {W : WX} {x : Xn} {e e1 e2 : Expr} {pos : Pos} {tbl : List (String × Bool)}
theorem ev_isXg {i : Nat} {b : Bool} {v : V} {cv : Value} (hpn : (a, oe) ∈ X.pn) (hxa : C.xa = some a) (hA : C.A = noA) (hX : XcOk X.K C x cls d) (hz : Zc cls d oe) (hf : ∃ vs, oe.data = .fields vs) (T : ∀ c, cls = .ref c → ExcC X.K c ∧ PySem.W.kitOne X.K (.ref c) cv = some b) (hcv : ∀ u, RelV v u → u = cv)
    (pp : PA X [e1, e2] (tCons (tVar i) (tCons (tC v) tNil))) (hp : ∀ r ta, CallR X (.builtin "isinstance") r → PA X [e1, e2] ta → PE X e (tCB r ta)) : EvD X C W e (mIsX i b) := by
  obtain ⟨c, hc, _⟩ := hX.cls
  obtain ⟨t1, t2⟩ := T c hc
  refine ⟨_, hp _ _ (call_isXg hpn t1 (hc ▸ hz) hf) pp, fun F H σ ε Q R q => ?_⟩
  obtain ⟨he, q⟩ := mIsX_good q
  obtain ⟨a', h1, h2⟩ := R.ent i _ he
  rw [hxa] at h1
  cases h1
  exact ⟨.ref a, h2, v, cv, b, rfl, hX.xd hA R, hcv, t2, q (.bl b) F H R Stp.refl (.bl b)⟩
theorem ev_isT1g {i : Nat} {v : V} {cv : Value} (hpn : (a, oe) ∈ X.pn) (hxa : C.xa = some a) (hA : C.A = noA) (hX : XcOk X.K C x cls d) (hz : Zc cls d oe) (hf : ∃ vs, oe.data = .fields vs) (T : TblOk X.K tbl fun c b => ExcC X.K c ∧ PySem.W.kitOne X.K (.ref c) cv = some b) (hcv : ∀ u, RelV v u → u = cv)
    (pp : PA X [e1, e2] (tCons (tVar i) (tCons (tC v) tNil))) (hp : ∀ r ta, CallR X (.builtin "isinstance") r → PA X [e1, e2] ta → PE X e (tCB r ta)) : EvD X C W e (mIsT i tbl x) := by
  unfold mIsT
  cases hl : tbl.lookup x.cls with
  | none => exact ev_never
  | some b =>
    refine ev_isXg hpn hxa hA hX hz hf (fun c hc => ?_) hcv pp hp
    obtain ⟨c2, h1, h2⟩ := hX.cls
    rw [hc] at h1
    cases h1
    exact T _ _ hl _ h2
end
/-! ### such a def -/
section
open PyProof.Rows
structure FnX (P : Program) (w : World) (K : PySem.W.Frag) (mg : Str → Option Value) (base : Heap) (k : Nat) (f : Addr) (fd : FuncData) (ps : List Str) (sp : Addr × Obj → List V → Hp → VK → Prop) : Prop where
  len : ∀ p vs H Q, sp p vs H Q → vs.length = ps.length
  run : ∀ (A : Around) (outer : List Env) (s : Shared) (H : Hp) (args : PySem.Args) (us : List Value) (vs : List V) (Q : VK) (p : Addr × Obj), L2H.RoomH k A → L2H.PinOk outer H s p → Env0 P w K mg base A outer s H → BindsTo s fd args (ps.zip us) → Vals vs us → sp p vs H Q →
    codeAny (model P w) A (.call (.ref f) args) (CR CX0 outer P w H s Q E0) s
theorem fnx_of {P : Program} {w : World} {K : PySem.W.Frag} {mg : Str → Option Value} {base : Heap} {x qual : Str} {st : Stmt} {f : Addr} {fd : FuncData} {N ps : List Str} {k : Nat} {sp : Addr × Obj → List V → Hp → VK → Prop}
    (F : Fun K x qual st f fd) (S : FnScope N ps (defScope st)) (len : ∀ p vs H Q, sp p vs H Q → vs.length = ps.length)
    (hbody : ∀ (cdv : Value) (A : Around) (outer : List Env) (s : Shared) (H : Hp) (vs : List V) (Q : VK) (p : Addr × Obj), sp p vs H Q →
      ∃ t, PSs (L2H.cxH CX0 P w K mg base N qual (defScope st) f cdv A outer s H E0 p) (defBody st) t ∧ t { nx := fun _ H' => Q .non H', rt := Q } (L2.start N vs) H) : FnX P w K mg base (k + 1) f fd ps sp := by
  obtain ⟨oc, od, kV, doc, pm, an, cdv, ct, osl, rfl, found, code⟩ := F.ex
  refine ⟨len, fun A outer s H args us vs Q p room pin e0 binds vals hsp => ?_⟩
  have inK : K.In s.heap := e0.mod.kin.keeps fun b o e => (e0.bs b o e).1
  have calm : s.heap.NoLimit := e0.mod.nolimit.keeps fun b o e => (e0.bs b o e).1
  have nm : ∀ y ∈ ps.zip us, (defScope st).names.lookup y.1 = some .local ∨ ((defScope st).names.lookup y.1 = some .cell ∧ ((cellsFrom (s.heap.objs.size + 1) (defScope st).names []).lookup y.1).isSome = true) := by
    intro ⟨n, v⟩ hy
    cases S.par n (List.of_mem_zip hy).1 with
    | inl q => exact Or.inl q
    | inr q => exact Or.inr ⟨q, PySem.W.cellsFrom_some _ _ _ (Or.inl q)⟩
  apply codeAny_call_function room.depth (inK _ _ found) rfl S.co S.gen rfl (PySem.W.codeRec_of inK code)
  apply binds
  apply wpAny_newFunctionEnv_cells S.kind nm
  intro env he s1 ic
  subst he
  refine ⟨calm.keeps ic.toInCall.keep, codeAny_func ?_⟩
  obtain ⟨t, runs, good⟩ := hbody cdv A outer s H vs Q p hsp
  have I0 := L2H.inv_startH (CX := CX0) (qual := qual) (f := f) (E := E0) S pin e0 (len _ _ _ _ hsp) vals ic
  refine wpAny_mono (runs.run [] s1 (L2.start N vs) H _ I0 good) (fun fl s' res => ?_) (fun _ _ z => z)
  cases fl with
  | ret u => obtain ⟨v, σ', H', J, rv, q⟩ := res; exact ⟨v, H', J.os, J.bare, J.base, J.hok, rv, q⟩
  | next => obtain ⟨σ', H', J, q⟩ := res; exact ⟨.non, H', J.os, J.bare, J.base, J.hok, rfl, q⟩
  | brk => obtain ⟨_, _, _, q⟩ := res; exact q.elim
  | cont => obtain ⟨_, _, _, q⟩ := res; exact q.elim
/-- what it promises: by the exception's data -/
def SpX (K : PySem.W.Frag) (m : Xn → Option D) : Addr × Obj → List V → Hp → VK → Prop := fun p vs H Q => ∃ x cls d F, vs = [.ref p.1] ∧ Zc cls d p.2 ∧ (∃ fs, p.2.data = .fields fs) ∧ Same F H ∧ XcOk K ⟨F, H, noA, some p.1⟩ x cls d ∧ match m x with
  | some r => ∀ v F' H', Ste F H F' H' → RepD K F' v r → Q v H'
  | none => False
def runX (n : Nat) (g : Xn → MoS) (x : Xn) : Option D := match g x (.xc :: List.replicate (n - 1) .un) with
  | some (.rt d _) => some d
  | _ => none
theorem rep_startX {K : PySem.W.Frag} {F H : Hp} {a : Addr} {N : List Str} (s : Same F H) : Rep K ⟨F, H, noA, some a⟩ F H (L2.start N [.ref a]) (.xc :: List.replicate (N.length - 1) .un) where
  fh := s
  ff := Same.refl F
  old := fun _ _ => rfl
  keep := fun _ _ h _ => h
  tr := fun _ h => h
  len := by
    unfold L2.start
    simp
  ent := fun i e he => by
    cases i with
    | zero => cases he; exact ⟨a, rfl, rfl⟩
    | succ i =>
      rw [List.getElem?_cons_succ] at he
      rw [List.eq_of_mem_replicate (List.mem_of_getElem? he)]
      trivial
  dis := fun i j l e e' h1 h2 h3 h4 h5 h6 => by
    exfalso
    cases i with
    | zero => cases h3; cases h5
    | succ i =>
      rw [List.getElem?_cons_succ] at h3
      rw [List.eq_of_mem_replicate (List.mem_of_getElem? h3)] at h5
      cases h5
theorem fn_X {P : Program} {w : World} {K : PySem.W.Frag} {mg : Str → Option Value} {base : Heap} {x qual : Str} {st : Stmt} {f : Addr} {fd : FuncData} {N ps : List Str} {k : Nat} {g : Xn → MoS} (F : Fun K x qual st f fd) (S : FnScope N ps (defScope st)) (hl : ps.length = 1)
    (hb : ∀ (cdv : Value) (A : Around) (outer : List Env) (s : Shared) (H : Hp) (p : Addr × Obj) (C : Ct) (xn : Xn) (cls : Value) (d : Option Addr), C.xa = some p.1 → C.A = noA → XcOk K C xn cls d → Zc cls d p.2 → (∃ vs, p.2.data = .fields vs) →
      SsD (L2H.cxH CX0 P w K mg base N qual (defScope st) f cdv A outer s H E0 p) C W0 (defBody st) (g xn)) : FnX P w K mg base (k + 1) f fd ps (SpX K (runX N.length g)) := by
  refine fnx_of F S (fun p vs H Q h => ?_) (fun cdv A outer s H vs Q p h => ?_)
  · obtain ⟨_, _, _, _, rfl, _⟩ := h
    exact hl.symm
  · obtain ⟨xn, cls, d, F0, rfl, hz, hf, sF, hX, h⟩ := h
    obtain ⟨ts, pr, sd⟩ := hb cdv A outer s H p ⟨F0, H, noA, some p.1⟩ xn cls d rfl rfl hX hz hf
    refine ⟨ts, pr, sd F0 H _ (.xc :: List.replicate (N.length - 1) .un) _ (rep_startX sF) ?_⟩
    unfold runX at h
    cases hg : g xn (.xc :: List.replicate (N.length - 1) .un) with
    | none => rw [hg] at h; exact h.elim
    | some r =>
      rw [hg] at h
      cases r with
      | rt r e => exact fun v F' H' σ' R s2 rv => h v F' H' ⟨R.ff, R.fh, R.old, fun b o z => R.keep b o z (fun j => by intro y; cases y)⟩ rv
      | nx e => exact h.elim
      | ex x e => exact h.elim
      | ro d e => exact h.elim
      | bk e => exact h.elim
      | ct e => exact h.elim
/-! ### the call -/
theorem run_fnx {X : Cx} {k : Nat} {f : Addr} {fd : FuncData} {ps : List Str} {sp : Addr × Obj → List V → Hp → VK → Prop} {p : Addr × Obj} {pins : List (Addr × Obj)} {σ : L2.St} {H : Hp} {s : Shared} {Q : VK} {us : List Value} {vs : List V} (F : FnX X.prog X.w X.K X.mg X.base k f fd ps sp) (room : L2H.RoomH k X.A) (hp : p ∈ X.pn) (hb : Binds X.K fd ps [])
    (I : L2.Inv X pins σ H s) (r : Vals vs us) (h : sp p vs H Q) : wpAny (model X.prog X.w) X.A (call (.ref f) us) (EP X pins σ Q) X.xe s := by
  have same : us.length = ps.length := by rw [← r.length]; exact F.len _ _ _ _ h
  have bound := hb s us I.kIn (by rw [List.append_nil]; exact same)
  rw [List.append_nil] at bound
  obtain ⟨z1, z2, z3, z4, z5⟩ := I.pin p (List.mem_append_left _ hp)
  have pin : L2H.PinOk X.stack H s p := ⟨z1, z2, fun hm => (List.mem_cons.mp (I.stkSub p.1 hm)).elim z3 z4, z5⟩
  refine wpAny_call (codeAny_mono (F.run X.A X.stack s H ⟨us, []⟩ us vs Q p room pin I.env0 bound r h) fun res s' hq => ?_)
  rcases res with e | fl
  · exact hq.elim
  · cases fl with
    | ret u => exact I.after hq
    | next => exact hq.elim
    | brk => exact hq.elim
    | cont => exact hq.elim
theorem pe_callX {X : Cx} {k : Nat} {f : Addr} {fd : FuncData} {ps : List Str} {sp : Addr × Obj → List V → Hp → VK → Prop} {q : Addr × Obj} {x : Str} {p pos : Pos} {e : Expr} {t : TA} (F : FnX X.prog X.w X.K X.mg X.base k f fd ps sp) (room : L2H.RoomH k X.A) (hp : q ∈ X.pn) (hg : Gl X x) (hm : X.mg x = some (.ref f)) (hk : PySem.W.keepIn X.K (.ref f) = true) (hb : Binds X.K fd ps [])
    (ha : PA X [e] t) (hdb : (x == ("__debug__" : Str)) = false := by decide) (he : starEach (e :: []) X.env = (false, eval e X.env) :: starEach [] X.env := by rfl) (hpl : (backTo pos (starEach [] X.env)).any (·.1) = false := by rfl) :
    PE X (.Call (.Name x p) [e] [] pos) (fun σ H Q => t σ H fun vs H1 => sp q vs H1 Q) := by
  constructor
  intro pins s σ H Q I h
  apply wpAny_Call_Name_kw
  apply ld_glob I hg hm _ hdb
  apply PySem.W.callWith_K (h₀ := X.base) I.ok.mod.kin hk _ he hpl
  exact thn (ha.run pos pins s σ H _ I h) fun us s1 ⟨vs, H1, I1, r, z⟩ => ⟨I1.kIn, run_fnx F room hp hb I1 r z⟩
theorem room_mark {k : Nat} {A : Around} {v : Option Value} (r : Room k A) : L2H.RoomH k (A.mark v) := ⟨r.dp, r.un⟩
def mFnX (i : Nat) (m : Option D) : Mo D := fun ε => match ε[i]? with
  | some .xc => lft m ε
  | _ => none
theorem ev_fnX {X : Cx} {C : Ct} {W : WX} {a : Addr} {oe : Obj} {cls : Value} {d : Option Addr} {xn : Xn} {k i : Nat} {f : Addr} {fd : FuncData} {ps : List Str} {m : Xn → Option D} {x : Str} {p pos : Pos} {e : Expr} (F : FnX X.prog X.w X.K X.mg X.base k f fd ps (SpX X.K m)) (room : L2H.RoomH k X.A) (hpn : (a, oe) ∈ X.pn) (hxa : C.xa = some a) (hA : C.A = noA) (hX : XcOk X.K C xn cls d) (hz : Zc cls d oe) (hf : ∃ vs, oe.data = .fields vs)
    (hg : Gl X x) (hm : X.mg x = some (.ref f)) (hk : PySem.W.keepIn X.K (.ref f) = true) (hb : Binds X.K fd ps []) (hv : PE X e (tVar i))
    (hdb : (x == ("__debug__" : Str)) = false := by decide) (he : starEach (e :: []) X.env = (false, eval e X.env) :: starEach [] X.env := by rfl) (hpl : (backTo pos (starEach [] X.env)).any (·.1) = false := by rfl) :
    EvD X C W (.Call (.Name x p) [e] [] pos) (mFnX i (m xn)) := by
  refine ⟨_, pe_callX F room hpn hg hm hk hb (pa_cons hv pa_nil he) hdb he hpl, fun F0 H σ ε Q R q => ?_⟩
  unfold mFnX at q
  split at q
  · rename_i hi
    obtain ⟨a', h1, h2⟩ := R.ent i _ hi
    rw [hxa] at h1
    cases h1
    refine ⟨.ref a, h2, xn, cls, d, F0, rfl, hz, hf, R.fh, ⟨hX.cls, ?_⟩, ?_⟩
    · rcases hX.fs with h | ⟨dd, vs, e1, e2, e3⟩
      · exact .inl h
      · exact .inr ⟨dd, vs, e1, R.keep _ _ e2 (fun j => by rw [hA]; exact fun z => by cases z), e3.mono R.ff⟩
    · unfold lft at q
      cases hmm : m xn with
      | none => rw [hmm] at q; exact q.elim
      | some r => rw [hmm] at q; exact fun v F' H' st rv => q v F' H' (R.step st) st.stp rv
  · exact q.elim
end
end DL

set_option Elab.async false
set_option linter.all false
set_option maxRecDepth 100000
/-! range(a, b) for whole numbers of any size -/
namespace DL
open PySem PySem.Spec L2
section
open PyProof.Rows
theorem turn_far {P : Program} {w : World} {K : PySem.W.Frag} {tg : Expr} (it : Addr) (lo : Int) (n : Nat) : Turn P w K tg (Itr lo n) [it] it (fun i h => IsLongIter h it (lo + (i : Nat) * 1) ((n : Int) - (i : Nat)) 1) where
  mem := List.mem_singleton.mpr rfl
  obj := fun i h st b hb => by
    obtain rfl := List.mem_singleton.mp hb
    refine ⟨_, st, fun v z => ?_⟩
    have z2 : Data.fields _ = Data.cell v := z
    cases z2
  keep := fun i h h' st k => k it (List.mem_singleton.mpr rfl) _ st
  item := by
    intro X hP hw hK calm i pins s σ H E I hf st hg
    subst hP hw hK
    obtain ⟨f0, f1, f2, f3, f4, f5⟩ := hf it (List.mem_singleton.mpr rfl)
    refine (Walks.longrange (prog := X.prog) (w := X.w) (I.ok.hd calm) it lo 1 n).item i s _ _ hg st ?_
    intro v h' tk hv st' kk
    obtain ⟨t, rfl⟩ := hv
    have I1 : L2.Inv X pins σ H { s with heap := h', toks := tk } := I.turned (fun b o hb e => kk b o (by simpa using hb) e) f0 f1 f3 f4 f5
    refine ⟨_, rfl, go_of (s := { s with heap := h', toks := tk }) (n := "longrange_iterator") st' rfl rfl (by decide) ⟨.int (lo + i), H, I1, ⟨t, ?_⟩, ⟨rfl, rfl⟩, st', fun b hb => (hf b hb).1⟩⟩
    rw [Int.mul_one]
  done := by
    intro X hP hw hK calm i pins s σ H E I hf st hg
    subst hP hw hK
    obtain ⟨f0, f1, f2, f3, f4, f5⟩ := hf it (List.mem_singleton.mpr rfl)
    have past : n ≤ i := hg
    exact wpAny_pyNext_long_end (I.ok.hd calm) st (by omega) fun h' eb => ⟨rfl, I.turned (t' := s.toks) (fun b o hb e => eb b o hb e) f0 f1 f3 f4 f5⟩
  self := fun _ _ _ _ _ st h => wpAny_pyIter_longiter st h
theorem range_far {X : Cx} {tg : Expr} {pins : List (Addr × Obj)} {σ : L2.St} {H : Hp} {s : Shared} {R : It → Hp → Prop} {E : Value → Shared → Prop} {lo hi : Int} {t u v : Tok} {tk : Nat} (I : L2.Inv X pins σ H s)
    (q : R (Itr lo (hi - lo).toNat) H) : wpAny (model X.prog X.w) X.A (pyIter (.ref s.heap.objs.size)) (PIE X pins σ tg R) E { s with heap := s.heap.push { cls := .type "range", data := .fields #[.int lo t, .int hi u, .int 1 v] }, toks := tk } := by
  have I1 : L2.Inv X pins σ H { s with heap := s.heap.push { cls := .type "range", data := .fields #[.int lo t, .int hi u, .int 1 v] }, toks := tk } := I.kept fun b o e => Heap.get?_push_of_some _ e
  have e1 : lo + ((0 : Nat) : Int) * 1 = lo := by simp
  have e2 : (((hi - lo).toNat : Nat) : Int) - ((0 : Nat) : Int) = Builtin.Range.rangeSize lo hi 1 := by rw [rangeSize_one]; split <;> omega
  have fp : ∀ b ∈ [(s.heap.push { cls := .type "range", data := .fields #[.int lo t, .int hi u, .int 1 v] }).objs.size], FpOk X pins H b := fun b hb => by
    obtain rfl := List.mem_singleton.mp hb
    exact I1.fpOk (Nat.le_refl _) (I1.hok.fresh (Nat.le_refl _))
  cases small : Builtin.Range.small lo hi 1 with
  | true =>
    refine wpAny_pyIter_range (IsRange.new ..) small ?_
    refine ⟨_, [_], _, _, H, rfl, I1.kept (t' := tk) fun b o e => Heap.get?_push_of_some _ e, turn_range _ lo (hi - lo).toNat, ?_, fp, q⟩
    show IsRangeIter _ _ (lo + ((0 : Nat) : Int) * 1) ((((hi - lo).toNat : Nat) : Int) - ((0 : Nat) : Int)) 1
    rw [e1, e2]
    exact Heap.get?_push_size _ rfl
  | false =>
    refine wpAny_pyIter_longrange (IsRange.new ..) small ?_
    refine ⟨_, [_], _, _, H, rfl, I1.kept (t' := tk) fun b o e => Heap.get?_push_of_some _ e, turn_far _ lo (hi - lo).toNat, ?_, fp, q⟩
    show IsLongIter _ _ (lo + ((0 : Nat) : Int) * 1) ((((hi - lo).toNat : Nat) : Int) - ((0 : Nat) : Int)) 1
    rw [e1, e2]
    exact Heap.get?_push_size _ rfl
def iRngFar (ta : TA) : TI := fun σ H R => ta σ H fun vs H1 => ∃ i j : Int, vs = [.int i, .int j] ∧ R (Itr i (j - i).toNat) H1
theorem pi_far {X : Cx} {tg a b : Expr} {ta : TA} {p pos : Pos} (hg : Gl X "range") (hm : X.mg "range" = none) (ha : PA X [a, b] ta) (hs : starEach [a, b] X.env = [(false, eval a X.env), (false, eval b X.env)] := by rfl) (hs2 : starEach [b] X.env = [(false, eval b X.env)] := by rfl) :
    PI X tg (.Call (.Name "range" p) [a, b] [] pos) (iRngFar ta) := by
  constructor
  intro pins s σ H R I h
  refine Call_ (ld_blt I hg hm boot_range ?_)
  refine callWith_type1 (thn (ha.run pos pins s σ H _ I h) ?_) (by rw [hs, hs2]) (by rw [hs2]; rfl)
  rintro us s1 ⟨vs, H1, I1, rel, i, j, rfl, q⟩
  cases rel with
  | cons r rest =>
    cases rest with
    | cons r' rest =>
      cases rest
      obtain ⟨t, rfl⟩ := r
      obtain ⟨t', rfl⟩ := r'
      exact call_range_2 (range_far I1 q)
end
section
variable {X : Cx} {C : Ct} {W : WX} {tg a b e : Expr}
def rngFar : List D → Option (List D)
  | [.int i, .int j] => some (rangeD i (j - i).toNat)
  | _ => none
theorem ei_far {fs : Mo (List D)} (ha : EaD X C W [a, b] fs) (hp : ∀ ta, PA X [a, b] ta → PI X tg e (iRngFar ta)) : EiD X C W tg e (bnd fs fun ds => lft (rngFar ds)) := by
  obtain ⟨ta, p1, s1⟩ := ha
  refine ⟨_, hp _ p1, fun F H σ ε R R0 q => ?_⟩
  refine s1 F H σ ε _ R0 (q.bind.imp (fun ds e q1 vs F1 H1 R1 st1 r1 => ?_) fun x e z => z)
  unfold lft at q1
  cases hr : rngFar ds with
  | none => rw [hr] at q1; exact q1.elim
  | some is =>
    rw [hr] at q1
    unfold rngFar at hr
    split at hr
    · rename_i i j
      cases hr
      have := RepL.ints (ns := [i, j]) r1
      subst this
      exact ⟨i, j, rfl, q1 _ F1 H1 R1 st1 it_range⟩
    · cases hr
end
end DL

set_option Elab.async false
set_option linter.all false
set_option maxRecDepth 100000
/-! dicts whose keys are tuples that are written out: d[x, y] -/
namespace DL
open PySem PySem.Spec L2
def tkeys : List D → Option (List Key)
  | [] => some []
  | d :: r => (keyD d).bind fun k => (tkeys r).map fun ks => k :: ks
theorem tkeys_rep {K : PySem.W.Frag} {F : Hp} : ∀ {vs : List V} {ds : List D} {ks : List Key}, RepL K F vs ds → tkeys ds = some ks → vs = ks.map kV
  | [], [], _, _, e => by cases e; rfl
  | v :: vs, d :: ds, ks, h, e => by
    cases h with
    | cons h1 h2 =>
      unfold tkeys at e
      cases hk : keyD d with
      | none => rw [hk] at e; cases e
      | some k =>
        rw [hk, Option.bind_some] at e
        cases hr : tkeys ds with
        | none => rw [hr] at e; cases e
        | some r =>
          rw [hr] at e
          cases e
          rw [keyD_rep h1 hk, tkeys_rep h2 hr]
          rfl
  | [], _ :: _, _, h, _ => by cases h
  | _ :: _, [], _, h, _ => by cases h
def dtAt : Option Ent → Option (List (List Key × D))
  | some (.od (.dt qs)) => some qs
  | some (.dat (.dt ks ds)) => some (ks.zip ds)
  | _ => none
theorem dtAt_rep {K : PySem.W.Frag} {C : Ct} {F H : Hp} {σ : St} {ε : List Ent} (R : Rep K C F H σ ε) {i : Nat} {qs : List (List Key × D)} (h : dtAt ε[i]? = some qs) : ∃ l kvs, σ[i]? = some (some (.ref l)) ∧ H l = some (.dT kvs) ∧ RepQ K F kvs qs := by
  cases h0 : ε[i]? with
  | none => rw [h0] at h; cases h
  | some e =>
    rw [h0] at h
    cases e with
    | od b =>
      cases b with
      | dt qs' =>
        cases h
        obtain ⟨l, o, q1, q2, q3, q4, q5⟩ := R.ent i _ h0
        cases o with
        | dT kvs => exact ⟨l, kvs, q1, q2, q4⟩
        | _ => exact q4.elim
      | _ => cases h
    | dat d =>
      cases d with
      | dt ks ds =>
        cases h
        obtain ⟨v, q1, q2⟩ := R.ent i _ h0
        cases q2 with
        | dt x1 x2 x3 => exact ⟨_, _, q1, R.fh _ _ x1, RepQ.zip x2 x3⟩
      | _ => cases h
    | _ => cases h
section
variable {X : Cx} {C : Ct} {W : WX} {a b e : Expr} {es : List Expr} {pos : Pos} {f : Mo D} {g : Mo (List D)} {s : Stmt}
/-- d[k, ..] -/
def mDGetT (i : Nat) (g : Mo (List D)) : Mo D := fun ε0 => match dtAt ε0[i]? with
  | none => none
  | some _ => bnd g (fun ds ε => match dtAt ε[i]?, tkeys ds with
    | some qs, some k => (match valQ qs k with
      | some v => if ds.length ≤ 1000 then some (.ok v ε) else none
      | none => none)
    | _, _ => none) ε0
theorem ev_dgetT {i : Nat} (hf : EaD X C W es g) (hp : ∀ ta, PA X es ta → PE X e (tDGet (tVar i) (tTup ta))) : EvD X C W e (mDGetT i g) := by
  obtain ⟨ta, p1, s1⟩ := hf
  refine ⟨_, hp _ p1, fun F H σ ε Q R q => ?_⟩
  unfold mDGetT at q
  cases h0 : dtAt ε[i]? with
  | none => rw [h0] at q; exact q.elim
  | some q0 =>
    rw [h0] at q
    obtain ⟨l, kvs0, a0, _, _⟩ := dtAt_rep R h0
    refine ⟨.ref l, a0, ?_⟩
    refine s1 F H σ ε _ R (q.bind.imp (fun ds e q1 vs F1 H1 R1 st1 r1 => ?_) fun x e z => z)
    cases h1 : dtAt e[i]? with
    | none => rw [h1] at q1; exact q1.elim
    | some qs =>
      cases h2 : tkeys ds with
      | none => rw [h1, h2] at q1; exact q1.elim
      | some k =>
        rw [h1, h2] at q1
        dsimp only at q1
        cases h3 : valQ qs k with
        | none => rw [h3] at q1; exact q1.elim
        | some c =>
          rw [h3] at q1
          dsimp only at q1
          by_cases hl : ds.length ≤ 1000
          · rw [if_pos hl] at q1
            obtain ⟨l1, kvs, a1, b1, r⟩ := dtAt_rep R1 h1
            rw [a0] at a1
            cases a1
            obtain ⟨w, e1, e2⟩ := r.val h3
            refine ⟨Nat.le_trans (by rw [r1.length]; exact hl) (by decide), fun p hp => ⟨l, w, rfl, ?_, q1 w F1 _ (R1.loose _ hp) (st1.trans (Ste.loose R1.fh hp).stp) e2⟩⟩
            rw [← e1]
            exact DGet.t ((upd_ne (fun z => by rw [z, hp] at b1; cases b1)).trans b1) (by rw [upd_same, tkeys_rep r1 h2])
          · rw [if_neg hl] at q1; exact q1.elim
/-- d[k, ..] = v -/
def mDPutT (i : Nat) (fv : Mo D) (g : Mo (List D)) : MoS := mThen fv fun d ε0 => match dtAt ε0[i]? with
  | none => none
  | some _ => mThen g (fun ds ε => match ε[i]?, tkeys ds with
    | some (.od (.dt qs)), some k => if qs.length < 1000000 ∧ ds.length ≤ 1000 then some (.nx (ε.set i (.od (.dt (putQ qs k d))))) else none
    | _, _ => none) ε0
theorem st_dputT {i : Nat} {v : Expr} (hp : ∀ te tk, PE X v te → PA X es tk → PS X s (sDPut (tVar i) (tTup tk) te)) (hv : EvD X C W v f) (hk : EaD X C W es g) : StD X C W s (mDPutT i f g) := by
  obtain ⟨te, p1, s1⟩ := hv
  obtain ⟨tk, p2, s2⟩ := hk
  refine ⟨_, hp _ _ p1 p2, fun F H σ ε D R q => ?_⟩
  refine s1 F H σ ε _ R ((then_good q).imp (fun d e q1 v F1 H1 R1 st1 r1 => ?_) fun x e z => z)
  cases h0 : dtAt e[i]? with
  | none => rw [h0] at q1; exact q1.elim
  | some q0 =>
    rw [h0] at q1
    obtain ⟨l, kvs0, a0, _, _⟩ := dtAt_rep R1 h0
    refine ⟨.ref l, a0, ?_⟩
    refine s2 F1 H1 σ e _ R1 ((then_good (q1.mono st1.ff)).imp (fun ds e2 q2 w F2 H2 R2 st2 r2 => ?_) fun x e z => z)
    cases h1 : e2[i]? with
    | none => rw [h1] at q2; exact q2.elim
    | some en =>
      rw [h1] at q2
      cases en with
      | od b =>
        cases b with
        | dt qs =>
          cases h2 : tkeys ds with
          | none => rw [h2] at q2; exact q2.elim
          | some k =>
            rw [h2] at q2
            dsimp only at q2
            by_cases hl : qs.length < 1000000 ∧ ds.length ≤ 1000
            · rw [if_pos hl] at q2
              refine ⟨Nat.le_trans (by rw [r2.length]; exact hl.2) (by decide), fun p hp => ?_⟩
              have R2' := R2.loose (.tup w) hp
              obtain ⟨l1, o, a1, b1, c1, r, g1⟩ := R2'.ent i _ h1
              rw [a0] at a1
              cases a1
              cases o with
              | dT kvs =>
                have r3 : RepQ X.K F2 (putK kvs k v) (putQ qs k d) := RepQ.put r (r1.mono st2.ff)
                have R3 := R2'.changeB (o := .dT (putK kvs k v)) (b1 := .dt (putQ qs k d)) h1 rfl a0 r3 (.inl ⟨rfl, rfl⟩)
                refine ⟨l, _, rfl, ?_, q2 F2 _ σ R3 st2.ff⟩
                exact DPut.t b1 (by rw [upd_same, tkeys_rep r2 h2]) (Nat.lt_of_lt_of_le (by rw [RepQ.length r]; exact hl.1) (by decide))
              | _ => exact r.elim
            · rw [if_neg hl] at q2; exact q2.elim
        | _ => exact q2.elim
      | _ => exact q2.elim
/-- len of such a dict -/
def mLenD (i : Nat) : Mo D := fun ε => match dtAt ε[i]? with
  | some qs => some (.ok (.int qs.length) ε)
  | none => none
theorem ev_lenD {i : Nat} (hp : PE X e (tCB rLenT (tCons (tVar i) tNil))) : EvD X C W e (mLenD i) := by
  refine ⟨_, hp, fun F H σ ε Q R q => ?_⟩
  unfold mLenD at q
  cases h0 : dtAt ε[i]? with
  | none => rw [h0] at q; exact q.elim
  | some qs =>
    rw [h0] at q
    obtain ⟨l, kvs, a0, b0, r⟩ := dtAt_rep R h0
    refine ⟨.ref l, a0, l, kvs, rfl, b0, ?_⟩
    rw [RepQ.length r]
    exact q (.int qs.length) F H R Stp.refl (.int _)
end
end DL

set_option Elab.async false
set_option linter.all false
namespace TL
open PySem PySem.Spec L2 DL
/-! # the typed layer: mirrors over frames held against plain functions in Option -/
abbrev eI : Int → D := D.int
abbrev eB : Bool → D := D.bl
abbrev eS : Str → D := D.str
abbrev eN : Unit → D := fun _ => D.non
abbrev eD : D → D := fun d => d
variable {α β γ δ τ : Type}
abbrev eL (e : α → D) (xs : List α) : D := .lst (xs.map e)
abbrev eR (e : α → D) (xs : List α) : D := .rdl (xs.map e)
abbrev eT (e : α → D) (xs : List α) : D := .tup (xs.map e)
abbrev e0 (_ : Unit) : D := .tup []
abbrev e1 (a : α → D) (p : α) : D := .tup [a p]
abbrev e2 {α β} (a : α → D) (b : β → D) (p : α × β) : D := .tup [a p.1, b p.2]
abbrev e3 {α β γ} (a : α → D) (b : β → D) (c : γ → D) (p : α × β × γ) : D := .tup [a p.1, b p.2.1, c p.2.2]
abbrev e4 {α β γ δ} (a : α → D) (b : β → D) (c : γ → D) (d : δ → D) (p : α × β × γ × δ) : D := .tup [a p.1, b p.2.1, c p.2.2.1, d p.2.2.2]
abbrev e5 {α β γ δ τ} (a : α → D) (b : β → D) (c : γ → D) (d : δ → D) (e : τ → D) (p : α × β × γ × δ × τ) : D := .tup [a p.1, b p.2.1, c p.2.2.1, d p.2.2.2.1, e p.2.2.2.2]
abbrev e6 {α β γ δ τ υ} (a : α → D) (b : β → D) (c : γ → D) (d : δ → D) (e : τ → D) (f : υ → D) (p : α × β × γ × δ × τ × υ) : D := .tup [a p.1, b p.2.1, c p.2.2.1, d p.2.2.2.1, e p.2.2.2.2.1, f p.2.2.2.2.2]
abbrev e7 {α β γ δ τ υ κ} (a : α → D) (b : β → D) (c : γ → D) (d : δ → D) (e : τ → D) (f : υ → D) (g : κ → D) (p : α × β × γ × δ × τ × υ × κ) : D := .tup [a p.1, b p.2.1, c p.2.2.1, d p.2.2.2.1, e p.2.2.2.2.1, f p.2.2.2.2.2.1, g p.2.2.2.2.2.2]
abbrev e8 {α β γ δ τ υ κ ω} (a : α → D) (b : β → D) (c : γ → D) (d : δ → D) (e : τ → D) (f : υ → D) (g : κ → D) (h : ω → D) (p : α × β × γ × δ × τ × υ × κ × ω) : D := .tup [a p.1, b p.2.1, c p.2.2.1, d p.2.2.2.1, e p.2.2.2.2.1, f p.2.2.2.2.2.1, g p.2.2.2.2.2.2.1, h p.2.2.2.2.2.2.2]
def eO (e : α → D) : Option α → D
  | none => .non
  | some a => e a
/-- what a def that may raise answers -/
inductive An (ρ : Type) where
  | ret (r : ρ) | exc (x : Xn)
def An.enc (e : α → D) : An α → Ans
  | .ret r => .ret (e r)
  | .exc x => .exc x
/-! ## judgements -/
def QC (X : Xn → β → Prop) (m : Mo δ) (ε : List Ent) (T : Option β) (k : δ → List Ent → Option β → Prop) : Prop := ∀ o, T = some o →
  (∃ d ε' T', m ε = some (.ok d ε') ∧ T' = some o ∧ k d ε' T') ∨ (∃ x ε', m ε = some (.ex x ε') ∧ X x o)
def QT (o : Option δ) (T : Option β) (k : δ → Option β → Prop) : Prop := ∀ r, T = some r → ∃ c T', o = some c ∧ T' = some r ∧ k c T'
def QS (Φ : β → Option ResS → Prop) (m : MoS) (ε : List Ent) (T : Option β) : Prop := ∀ o, T = some o → Φ o (m ε)
def letO (v : α) (k : α → Option β) : Option β := k v
variable {X : Xn → β → Prop} {ε : List Ent} {T : Option β} {i : Nat}
theorem qt_tot {o : Option δ} {k : δ → Option β → Prop} (c : δ) (h : o = some c) (hk : k c T) : QT o T k := fun r hr => ⟨c, T, h, hr, hk⟩
theorem qt_par {o : Option δ} {k : δ → Option β → Prop} {t : Option γ} {K : γ → Option β} (d : γ → δ) (h : ∀ c, t = some c → o = some (d c)) (hk : ∀ c, k (d c) (K c)) : QT o (t.bind K) k := fun r hr => by
  cases ht : t with
  | none => rw [ht] at hr; cases hr
  | some c => rw [ht] at hr; exact ⟨d c, K c, h c ht, hr, hk c⟩
section
variable {k : δ → List Ent → Option β → Prop}
theorem qc_bnd {f : Mo γ} {g : γ → Mo δ} (h : QC X f ε T fun a ε1 T1 => QC X (g a) ε1 T1 k) : QC X (bnd f g) ε T k := fun o ho => by
  unfold bnd
  rcases h o ho with ⟨d, ε', T', e, h1, h2⟩ | ⟨x, ε', e, h1⟩
  · rw [e]; exact h2 o h1
  · rw [e]; exact .inr ⟨x, ε', rfl, h1⟩
theorem qc_pur {a : δ} (h : k a ε T) : QC X (pur a) ε T k := fun o ho => .inl ⟨a, ε, T, rfl, ho, h⟩
theorem qc_lft {o : Option δ} (h : QT o T fun c T1 => k c ε T1) : QC X (lft o) ε T k := fun r hr => by
  obtain ⟨c, T', e, h1, h2⟩ := h r hr
  exact .inl ⟨c, ε, T', by unfold lft; rw [e], h1, h2⟩
theorem qc_let {m : Mo δ} {v : γ} {K : γ → Option β} (f : γ → List Ent) (h : ∀ z, QC X m (f z) (K z) k) : QC X m (f v) (letO v K) k := h v
theorem qc_imp {m : Mo δ} {k' : δ → List Ent → Option β → Prop} (h : QC X m ε T k) (hk : ∀ d ε' T', k d ε' T' → k' d ε' T') : QC X m ε T k' := fun o ho => by
  rcases h o ho with ⟨d, ε', T', e, h1, h2⟩ | z
  · exact .inl ⟨d, ε', T', e, h1, hk _ _ _ h2⟩
  · exact .inr z
end
section
variable {k : D → List Ent → Option β → Prop} {kl : List D → List Ent → Option β → Prop} {kb : Bool → List Ent → Option β → Prop}
theorem qc_var {d : D} (h : ε[i]? = some (.dat d)) (hk : k d ε T) : QC X (mVar i) ε T k := fun o ho => .inl ⟨d, ε, T, by unfold mVar; rw [h], ho, hk⟩
theorem qc_op {g : D → D → Option D} {f1 f2 : Mo D} (h : QC X f1 ε T fun a ε1 T1 => QC X f2 ε1 T1 fun b ε2 T2 => QT (g a b) T2 fun c T3 => k c ε2 T3) : QC X (mOp g f1 f2) ε T k :=
  qc_bnd (qc_imp h fun _ _ _ h1 => qc_bnd (qc_imp h1 fun _ _ _ h2 => qc_lft h2))
theorem qc_un {g : D → Option D} {f : Mo D} (h : QC X f ε T fun a ε1 T1 => QT (g a) T1 fun c T2 => k c ε1 T2) : QC X (mUn g f) ε T k :=
  qc_bnd (qc_imp h fun _ _ _ h1 => qc_lft h1)
theorem qc_call {g : List D → Option D} {f : Mo (List D)} (h : QC X f ε T fun a ε1 T1 => QT (g a) T1 fun c T2 => k c ε1 T2) : QC X (mCall g f) ε T k :=
  qc_bnd (qc_imp h fun _ _ _ h1 => qc_lft h1)
theorem qc_nil (h : kl [] ε T) : QC X (pur []) ε T kl := qc_pur h
theorem qc_cons {f : Mo D} {g : Mo (List D)} (h : QC X f ε T fun d ε1 T1 => QC X g ε1 T1 fun ds ε2 T2 => kl (d :: ds) ε2 T2) : QC X (mCons f g) ε T kl :=
  qc_bnd (qc_imp h fun _ _ _ h1 => qc_bnd (qc_imp h1 fun _ _ _ h2 => qc_pur h2))
theorem qc_tup {f : Mo (List D)} (h : QC X f ε T fun ds ε1 T1 => ds.length ≤ 1000 ∧ k (.tup ds) ε1 T1) : QC X (mTup f) ε T k :=
  qc_bnd (qc_imp h fun ds _ _ h1 => qc_lft (qt_tot (.tup ds) (if_pos h1.1) h1.2))
theorem qc_lst {f : Mo (List D)} (h : QC X f ε T fun ds ε1 T1 => ds.length ≤ 1000 ∧ k (.lst ds) ε1 T1) : QC X (mLst f) ε T k :=
  qc_bnd (qc_imp h fun ds _ _ h1 => qc_lft (qt_tot (.lst ds) (if_pos h1.1) h1.2))
theorem qc_lstO {f : Mo (List D)} (h : QC X f ε T fun ds ε1 T1 => ds.length ≤ 1000 ∧ kl ds ε1 T1) : QC X (mLstO f) ε T kl :=
  qc_bnd (qc_imp h fun ds _ _ h1 => qc_lft (qt_tot ds (if_pos h1.1) h1.2))
theorem qc_fz {f : Mo (List D)} (h : QC X f ε T fun ds ε1 T1 => k (.lst ds) ε1 T1) : QC X (mFz f) ε T k := qc_bnd (qc_imp h fun _ _ _ h1 => qc_pur h1)
theorem qc_fn {n : Nat} {m : List D → Option Ans} {f : Mo (List D)} (h : QC X f ε T fun ds ε1 T1 => ds.length = n ∧ QT (m ds) T1 fun a T2 => ∃ d, a = .ret d ∧ k d ε1 T2) : QC X (mFn n m f) ε T k :=
  qc_bnd (qc_imp h fun ds ε1 T1 h1 o ho => by
    obtain ⟨hl, h2⟩ := h1
    rw [if_pos hl]
    obtain ⟨c, T', e, h3, d, rfl, h4⟩ := h2 o ho
    exact .inl ⟨d, ε1, T', by unfold ansM; rw [e], h3, h4⟩)
/-- a call that may raise, in a def that may raise -/
theorem qc_fnX {ρ κ : Type} {X : Xn → An ρ → Prop} {T : Option (An ρ)} {k : D → List Ent → Option (An ρ) → Prop} (hX : ∀ x, X x (.exc x)) {n : Nat} {m : List D → Option Ans} {f : Mo (List D)}
    (h : QC X f ε T fun ds ε1 T1 => ds.length = n ∧ ∃ (t : Option (An κ)) (e : κ → D) (K : κ → Option (An ρ)), T1 = (t.bind fun a => match a with | .ret r => K r | .exc x => some (.exc x)) ∧ (∀ a, t = some a → m ds = some (a.enc e)) ∧ ∀ r, k (e r) ε1 (K r)) : QC X (mFn n m f) ε T k :=
  qc_bnd (qc_imp h fun ds ε1 T1 h1 o ho => by
    obtain ⟨hl, t, e, K, rfl, h2, h3⟩ := h1
    rw [if_pos hl]
    cases ht : t with
    | none => rw [ht] at ho; cases ho
    | some a =>
      have hm := h2 a ht
      rw [ht] at ho
      cases a with
      | ret r => exact .inl ⟨e r, ε1, K r, by unfold ansM; rw [hm]; rfl, ho, h3 r⟩
      | exc x =>
        cases ho
        exact .inr ⟨x, ε1, by unfold ansM; rw [hm]; rfl, hX x⟩)
theorem qc_fnQ {n : Nat} {m : List D → List D → Option (Ans × List D)} {f : Mo (List D)} {e0 : Ent} {ps0 : List D} (h0 : ε[i]? = some e0) (h0' : e0.get = some ps0)
    (h : QC X f ε T fun ds ε1 T1 => ds.length + 1 = n ∧ ∃ e ps, ε1[i]? = some e ∧ e.get = some ps ∧ QT (m ps ds) T1 fun a T2 => ∃ d qs, a = (.ret d, qs) ∧ k d (ε1.set i (e.put qs)) T2) : QC X (mFnQ i n m f) ε T k := fun o ho => by
  unfold mFnQ
  rw [h0, Option.bind_some, h0']
  dsimp only
  refine qc_bnd (X := X) (k := k) (qc_imp h fun ds ε1 T1 h1 o ho => ?_) o ho
  obtain ⟨hl, e, ps, q1, q2, h2⟩ := h1
  rw [q1]
  dsimp only
  rw [q2]
  dsimp only
  rw [if_pos hl]
  obtain ⟨c, T', e, h3, d, qs, rfl, h4⟩ := h2 o ho
  exact .inl ⟨d, _, T', by rw [e], h3, h4⟩
theorem qc_pop {e : Ent} {ps : List D} (h0 : ε[i]? = some e) (h1 : e.get = some ps) (h : QT ps[ps.length - 1]? T fun d T1 => k d (ε.set i (e.put ps.dropLast)) T1) : QC X (mPop i) ε T k := fun o ho => by
  obtain ⟨c, T', e1, h3, h4⟩ := h o ho
  refine .inl ⟨c, _, T', ?_, h3, h4⟩
  unfold mPop
  rw [h0]
  dsimp only
  rw [h1]
  dsimp only
  rw [e1]
theorem qc_popAt {fk : Mo D} {e0 : Ent} {ps0 : List D} (h0 : ε[i]? = some e0) (h0' : e0.get = some ps0) (h : QC X fk ε T fun a ε1 T1 => ∃ j e ps, a = .int j ∧ ε1[i]? = some e ∧ e.get = some ps ∧
    QT (if ps.length < 1000000 ∧ 0 ≤ j then ps[j.toNat]? else none) T1 fun d T2 => k d (ε1.set i (e.put (ps.eraseIdx j.toNat))) T2) : QC X (mPopAt i fk) ε T k := fun o ho => by
  unfold mPopAt
  rw [h0, Option.bind_some, h0']
  dsimp only
  refine qc_bnd (X := X) (k := k) (qc_imp h fun a ε1 T1 h1 o ho => ?_) o ho
  obtain ⟨j, e, ps, rfl, q1, q2, h2⟩ := h1
  obtain ⟨c, T', e1, h3, h4⟩ := h2 o ho
  refine .inl ⟨c, _, T', ?_, h3, h4⟩
  rw [q1]
  dsimp only
  rw [q2]
  dsimp only
  split at e1
  · rename_i hc
    rw [if_pos hc, e1]
  · cases e1
theorem qc_lenN_own {ds : List D} (h : ε[i]? = some (.own ds)) (hk : k (.int ds.length) ε T) : QC X (mLenN i) ε T k := fun o ho => .inl ⟨_, ε, T, by unfold mLenN; rw [h], ho, hk⟩
theorem qc_lenN_io {ds : List D} (h : ε[i]? = some (.io ds)) (hk : k (.int ds.length) ε T) : QC X (mLenN i) ε T k := fun o ho => .inl ⟨_, ε, T, by unfold mLenN; rw [h], ho, hk⟩
theorem qc_lenN_dat {d : D} {ds : List D} (h : ε[i]? = some (.dat d)) (hd : seqOf d = some ds) (hk : k (.int ds.length) ε T) : QC X (mLenN i) ε T k := fun o ho => by
  refine .inl ⟨_, ε, T, ?_, ho, hk⟩
  unfold mLenN; rw [h]
  cases d <;> first | (cases hd; rfl) | cases hd
theorem qc_lenN_str {x : Str} (h : ε[i]? = some (.dat (.str x))) (hk : QT (if x.length ≤ 1000000 then some () else none) T fun _ T1 => k (.int x.length) ε T1) : QC X (mLenN i) ε T k := fun o ho => by
  obtain ⟨c, T', e1, h3, h4⟩ := hk o ho
  refine .inl ⟨_, ε, T', ?_, h3, h4⟩
  unfold mLenN; rw [h]
  dsimp only
  split at e1
  · rename_i hc; rw [if_pos hc]
  · cases e1
theorem qc_itemN {g : Mo D} {e0 : Ent} {ps0 : List D} (h0 : ε[i]? = some e0) (h0' : e0.get = some ps0) (h : QC X g ε T fun a ε1 T1 => ∃ j e ps, a = .int j ∧ ε1[i]? = some e ∧ e.get = some ps ∧ QT (atI ps j) T1 fun d T2 => k d ε1 T2) : QC X (mItemN i g) ε T k := fun o ho => by
  unfold mItemN
  rw [h0, Option.bind_some, h0']
  dsimp only
  refine qc_bnd (X := X) (k := k) (qc_imp h fun a ε1 T1 h1 o ho => ?_) o ho
  obtain ⟨j, e, ps, rfl, q1, q2, h2⟩ := h1
  obtain ⟨c, T', e1, h3, h4⟩ := h2 o ho
  refine .inl ⟨c, _, T', ?_, h3, h4⟩
  rw [q1, Option.bind_some, q2]
  dsimp only
  rw [e1]
/-! tests -/
theorem qc_B {f : Mo D} (h : QC X f ε T fun d ε1 T1 => ∃ b, d = .bl b ∧ kb b ε1 T1) : QC X (mB f) ε T kb :=
  qc_bnd (qc_imp h fun d ε1 T1 ⟨b, e, h1⟩ => qc_lft (qt_tot b (by rw [e]; rfl) h1))
theorem qc_not {f : Mo Bool} (h : QC X f ε T fun b ε1 T1 => kb (!b) ε1 T1) : QC X (mNot f) ε T kb := qc_bnd (qc_imp h fun _ _ _ h1 => qc_pur h1)
/-- the second side plain -/
theorem qc_and {f g : Mo Bool} (h : QC X f ε T fun a ε1 T1 => ∃ b, (∀ T : Option β, QC X g ε1 T fun x ε2 T2 => x = b ∧ ε2 = ε1 ∧ T2 = T) ∧ kb (a && b) ε1 T1) : QC X (mAnd f g) ε T kb :=
  qc_bnd (qc_imp h fun x ε1 T1 ⟨b, h2, hk⟩ => by
    cases x with
    | false => exact qc_pur hk
    | true => exact qc_imp (h2 _) fun y ε2 T2 ⟨e1, e2, e3⟩ => by subst e1 e2 e3; exact hk)
theorem qc_or {f g : Mo Bool} (h : QC X f ε T fun a ε1 T1 => ∃ b, (∀ T : Option β, QC X g ε1 T fun x ε2 T2 => x = b ∧ ε2 = ε1 ∧ T2 = T) ∧ kb (a || b) ε1 T1) : QC X (mOr f g) ε T kb :=
  qc_bnd (qc_imp h fun x ε1 T1 ⟨b, h2, hk⟩ => by
    cases x with
    | true => exact qc_pur hk
    | false => exact qc_imp (h2 _) fun y ε2 T2 ⟨e1, e2, e3⟩ => by subst e1 e2 e3; exact hk)
theorem qc_part {g : Mo δ} {kd : δ → List Ent → Option β → Prop} {t : Option γ} {K : γ → Option β} {bv : γ → δ} {fv : γ → List Ent} (h2 : QC (fun _ _ => False) g ε t fun x ε1 T1 => ∃ y, T1 = some y ∧ x = bv y ∧ ε1 = fv y) (hk : ∀ y, kd (bv y) (fv y) (K y)) : QC X g ε (t.bind K) kd := fun o ho => by
  cases ht : t with
  | none => rw [ht] at ho; cases ho
  | some c =>
    rw [ht, Option.bind_some] at ho
    rcases h2 c ht with ⟨d, ε', T', e, q1, y, q2, q3, q4⟩ | ⟨_, _, _, z⟩
    · subst q3 q4; rw [q1] at q2; cases q2
      exact .inl ⟨_, _, _, e, ho, hk c⟩
    · exact z.elim
/-- the second side with a computation of its own -/
theorem qc_andP {f g : Mo Bool} (h : QC X f ε T fun a ε1 T1 => ∃ (γ : Type) (t : Option γ) (K : γ → Option β) (bv : γ → Bool) (fv : γ → List Ent) (zz : γ), T1 = (if a = true then t else some zz).bind K ∧ (bv zz = false ∧ fv zz = ε1) ∧
    QC (fun _ _ => False) g ε1 t (fun x ε2 T2 => ∃ y, T2 = some y ∧ x = bv y ∧ ε2 = fv y) ∧ ∀ y, kb (bv y) (fv y) (K y)) : QC X (mAnd f g) ε T kb :=
  qc_bnd (qc_imp h fun x ε1 T1 ⟨γ, t, K, bv, fv, zz, e1, hz, h2, hk⟩ => by
    subst e1
    cases x with
    | false =>
      rw [if_neg (by simp), if_neg (by simp), Option.bind_some]
      have := hk zz
      rw [hz.1, hz.2] at this
      exact qc_pur this
    | true =>
      rw [if_pos rfl, if_pos rfl]
      exact qc_part h2 hk)
theorem qc_orP {f g : Mo Bool} (h : QC X f ε T fun a ε1 T1 => ∃ (γ : Type) (t : Option γ) (K : γ → Option β) (bv : γ → Bool) (fv : γ → List Ent) (zz : γ), T1 = (if a = true then some zz else t).bind K ∧ (bv zz = true ∧ fv zz = ε1) ∧
    QC (fun _ _ => False) g ε1 t (fun x ε2 T2 => ∃ y, T2 = some y ∧ x = bv y ∧ ε2 = fv y) ∧ ∀ y, kb (bv y) (fv y) (K y)) : QC X (mOr f g) ε T kb :=
  qc_bnd (qc_imp h fun x ε1 T1 ⟨γ, t, K, bv, fv, zz, e1, hz, h2, hk⟩ => by
    subst e1
    cases x with
    | true =>
      rw [if_pos rfl, if_pos rfl, Option.bind_some]
      have := hk zz
      rw [hz.1, hz.2] at this
      exact qc_pur this
    | false =>
      rw [if_neg (by simp), if_neg (by simp)]
      exact qc_part h2 hk)
theorem qc_truth {f : Mo D} (h : QC X f ε T fun d ε1 T1 => ∃ ds, seqOf d = some ds ∧ kb (!ds.isEmpty) ε1 T1) : QC X (mTruth f) ε T kb :=
  qc_bnd (qc_imp h fun d ε1 T1 ⟨ds, e, h1⟩ => qc_lft (qt_tot _ (by cases d <;> first | (cases e; rfl) | cases e) h1))
theorem qc_notV {f : Mo D} (h : QC X f ε T fun d ε1 T1 => ∃ b, d = .bl b ∧ k (.bl (!b)) ε1 T1) : QC X (mNotV f) ε T k := qc_bnd (qc_B (qc_imp h fun d ε1 T1 ⟨b, e, h1⟩ => ⟨b, e, qc_pur h1⟩))
theorem qc_andV {f g : Mo D} (h : QC X f ε T fun d ε1 T1 => ∃ a b, d = .bl a ∧ (∀ T : Option β, QC X g ε1 T fun x ε2 T2 => x = .bl b ∧ ε2 = ε1 ∧ T2 = T) ∧ k (.bl (a && b)) ε1 T1) : QC X (mAndV f g) ε T k :=
  qc_bnd (qc_B (qc_imp h fun d ε1 T1 ⟨a, b, e, h2, hk⟩ => ⟨a, e, by
    cases a with
    | false => exact qc_pur hk
    | true => exact qc_imp (h2 _) fun y ε2 T2 ⟨e1, e2, e3⟩ => by subst e1 e2 e3; exact hk⟩))
theorem qc_orV {f g : Mo D} (h : QC X f ε T fun d ε1 T1 => ∃ a b, d = .bl a ∧ (∀ T : Option β, QC X g ε1 T fun x ε2 T2 => x = .bl b ∧ ε2 = ε1 ∧ T2 = T) ∧ k (.bl (a || b)) ε1 T1) : QC X (mOrV f g) ε T k :=
  qc_bnd (qc_B (qc_imp h fun d ε1 T1 ⟨a, b, e, h2, hk⟩ => ⟨a, e, by
    cases a with
    | true => exact qc_pur hk
    | false => exact qc_imp (h2 _) fun y ε2 T2 ⟨e1, e2, e3⟩ => by subst e1 e2 e3; exact hk⟩))
theorem qc_andVP {f g : Mo D} (h : QC X f ε T fun d ε1 T1 => ∃ (γ : Type) (a : Bool) (t : Option γ) (K : γ → Option β) (bv : γ → Bool) (fv : γ → List Ent) (zz : γ), d = .bl a ∧ T1 = (if a = true then t else some zz).bind K ∧ (bv zz = false ∧ fv zz = ε1) ∧
    QC (fun _ _ => False) g ε1 t (fun x ε2 T2 => ∃ y, T2 = some y ∧ x = .bl (bv y) ∧ ε2 = fv y) ∧ ∀ y, k (.bl (bv y)) (fv y) (K y)) : QC X (mAndV f g) ε T k :=
  qc_bnd (qc_B (qc_imp h fun d ε1 T1 ⟨γ, a, t, K, bv, fv, zz, e, e1, hz, h2, hk⟩ => ⟨a, e, by
    subst e1
    cases a with
    | false =>
      rw [if_neg (by simp), if_neg (by simp), Option.bind_some]
      have := hk zz
      rw [hz.1, hz.2] at this
      exact qc_pur this
    | true =>
      rw [if_pos rfl, if_pos rfl]
      exact qc_part (bv := fun y => .bl (bv y)) h2 hk⟩))
theorem qc_orVP {f g : Mo D} (h : QC X f ε T fun d ε1 T1 => ∃ (γ : Type) (a : Bool) (t : Option γ) (K : γ → Option β) (bv : γ → Bool) (fv : γ → List Ent) (zz : γ), d = .bl a ∧ T1 = (if a = true then some zz else t).bind K ∧ (bv zz = true ∧ fv zz = ε1) ∧
    QC (fun _ _ => False) g ε1 t (fun x ε2 T2 => ∃ y, T2 = some y ∧ x = .bl (bv y) ∧ ε2 = fv y) ∧ ∀ y, k (.bl (bv y)) (fv y) (K y)) : QC X (mOrV f g) ε T k :=
  qc_bnd (qc_B (qc_imp h fun d ε1 T1 ⟨γ, a, t, K, bv, fv, zz, e, e1, hz, h2, hk⟩ => ⟨a, e, by
    subst e1
    cases a with
    | true =>
      rw [if_pos rfl, if_pos rfl, Option.bind_some]
      have := hk zz
      rw [hz.1, hz.2] at this
      exact qc_pur this
    | false =>
      rw [if_neg (by simp), if_neg (by simp)]
      exact qc_part (bv := fun y => .bl (bv y)) h2 hk⟩))
theorem qc_if {c : Mo Bool} {f g : Mo D} (h : QC X c ε T fun b ε1 T1 => ∃ (γ : Type) (t1 t2 : Option γ) (K : γ → Option β) (dv : γ → D) (fv : γ → List Ent), T1 = (if b = true then t1 else t2).bind K ∧
    QC (fun _ _ => False) f ε1 t1 (fun x ε2 T2 => ∃ y, T2 = some y ∧ x = dv y ∧ ε2 = fv y) ∧ QC (fun _ _ => False) g ε1 t2 (fun x ε2 T2 => ∃ y, T2 = some y ∧ x = dv y ∧ ε2 = fv y) ∧ ∀ y, k (dv y) (fv y) (K y)) : QC X (mIf c f g) ε T k :=
  qc_bnd (qc_imp h fun x ε1 T1 ⟨γ, t1, t2, K, dv, fv, e1, h1, h2, hk⟩ => by
    subst e1
    cases x with
    | true => rw [if_pos rfl, if_pos rfl]; exact qc_part h1 hk
    | false => rw [if_neg (by simp), if_neg (by simp)]; exact qc_part h2 hk)
/-- both branches plain -/
theorem qc_ifv {c : Mo Bool} {f g : Mo D} {e : γ → D} {x y : γ} (h : QC X c ε T fun b ε1 T1 => (∀ T : Option β, QC X f ε1 T fun z ε2 T2 => z = e x ∧ ε2 = ε1 ∧ T2 = T) ∧ (∀ T : Option β, QC X g ε1 T fun z ε2 T2 => z = e y ∧ ε2 = ε1 ∧ T2 = T) ∧ k (e (if b = true then x else y)) ε1 T1) : QC X (mIf c f g) ε T k :=
  qc_bnd (qc_imp h fun z ε1 T1 ⟨h1, h2, hk⟩ => by
    cases z with
    | true => exact qc_imp (h1 _) fun w ε2 T2 ⟨e1, e2, e3⟩ => by subst e1 e2 e3; exact hk
    | false => exact qc_imp (h2 _) fun w ε2 T2 ⟨e1, e2, e3⟩ => by subst e1 e2 e3; exact hk)
theorem qc_chain {g1 g2 : D → D → Option D} {f g h : Mo D} (h1 : QC X f ε T fun x ε1 T1 => QC X g ε1 T1 fun y ε2 T2 => ∃ z p q, g1 x y = some (.bl p) ∧ (∀ T : Option β, QC X h ε2 T fun a ε3 T3 => a = z ∧ ε3 = ε2 ∧ T3 = T) ∧ g2 y z = some (.bl q) ∧ k (.bl (p && q)) ε2 T2) : QC X (mChain g1 g2 f g h) ε T k :=
  qc_bnd (qc_imp h1 fun x ε1 T1 h2 => qc_bnd (qc_imp h2 fun y ε2 T2 ⟨z, p, q, hp, h3, hq, hk⟩ => by
    refine qc_bnd (qc_B (qc_lft (qt_tot _ hp ⟨p, rfl, ?_⟩)))
    cases p with
    | false => exact qc_pur hk
    | true => exact qc_bnd (qc_imp (h3 _) fun c ε3 T3 ⟨e1, e2, e3⟩ => by subst e1 e2 e3; exact qc_lft (qt_tot _ hq hk))))
/-- the last side with a computation of its own -/
theorem qc_chainP {g1 g2 : D → D → Option D} {f g h : Mo D} (h1 : QC X f ε T fun x ε1 T1 => QC X g ε1 T1 fun y ε2 T2 => ∃ (γ : Type) (p : Bool) (t : Option γ) (K : γ → Option β) (bv : γ → Bool) (fv : γ → List Ent) (zz : γ), g1 x y = some (.bl p) ∧ T2 = (if p = true then t else some zz).bind K ∧ (bv zz = false ∧ fv zz = ε2) ∧
    QC (fun _ _ => False) h ε2 t (fun a ε3 T3 => QT (g2 y a) T3 fun c T4 => ∃ w, T4 = some w ∧ c = .bl (bv w) ∧ ε3 = fv w) ∧ ∀ w, k (.bl (bv w)) (fv w) (K w)) : QC X (mChain g1 g2 f g h) ε T k :=
  qc_bnd (qc_imp h1 fun x ε1 T1 h2 => qc_bnd (qc_imp h2 fun y ε2 T2 ⟨γ, p, t, K, bv, fv, zz, hp, e1, hz, h3, hk⟩ => by
    subst e1
    refine qc_bnd (qc_B (qc_lft (qt_tot _ hp ⟨p, rfl, ?_⟩)))
    cases p with
    | false =>
      rw [if_neg (by simp), if_neg (by simp), Option.bind_some]
      have := hk zz
      rw [hz.1, hz.2] at this
      exact qc_pur this
    | true =>
      rw [if_pos rfl, if_pos rfl]
      exact qc_part (bv := fun y => .bl (bv y)) (qc_bnd (qc_imp h3 fun a ε3 T3 h4 => qc_lft h4)) hk))
end
end TL

set_option Elab.async false
set_option linter.all false
namespace TL
open PySem PySem.Spec L2 DL
variable {α β γ δ τ σ : Type}
def isEnd : Option ResS → Prop
  | some (.nx _) => False
  | none => False
  | _ => True
def isOut : Option ResS → Prop
  | some (.rt _ _) => True
  | some (.ro _ _) => True
  | some (.ex _ _) => True
  | _ => False
/-- an outcome that leaves the def -/
def NO (Φ : β → Option ResS → Prop) (o : β) (q : Option ResS) : Prop := Φ o q ∧ isOut q
/-- an outcome on which nothing goes on in the frame -/
def NX (Φ : β → Option ResS → Prop) (o : β) (q : Option ResS) : Prop := Φ o q ∧ isEnd q
abbrev XP (Φ : β → Option ResS → Prop) : Xn → β → Prop := fun x o => ∀ ε', Φ o (some (.ex x ε'))
/-- the outcome of a block that only goes on -/
abbrev GO (F : σ → List Ent) : σ → Option ResS → Prop := fun s q => q = some (.nx (F s))
abbrev GC (F : σ → List Ent) : σ → Option ResS → Prop := fun s q => q = some (.nx (F s)) ∨ q = some (.ct (F s))
/-- a turn of a loop: on to the next one, out of the loop, or out of the block around it -/
inductive LS (σ β : Type) where
  | go (s : σ) | brk (s : σ) | out (o : β)
def LO (F : σ → List Ent) (Φ : β → Option ResS → Prop) : LS σ β → Option ResS → Prop
  | .go s, q => q = some (.nx (F s)) ∨ q = some (.ct (F s))
  | .brk s, q => q = some (.bk (F s))
  | .out o, q => NO Φ o q
def foldO (b : α → σ → Option σ) : List α → σ → Option σ
  | [], s => some s
  | a :: r, s => (b a s).bind fun s' => foldO b r s'
def forS (b : α → σ → Option (LS σ β)) : List α → σ → (σ → Option β) → Option β
  | [], s, k => k s
  | a :: r, s, k => (b a s).bind fun z => match z with
    | .go s' => forS b r s' k
    | .brk s' => k s'
    | .out o => some o
def whS (c : σ → Option Bool) (b : σ → Option (LS σ β)) : Nat → σ → (σ → Option β) → Option β
  | 0, _, _ => none
  | n + 1, s, k => (c s).bind fun t => if t = true then (b s).bind fun z => match z with
    | .go s' => whS c b n s' k
    | .brk s' => k s'
    | .out o => some o
    else k s
def mapO (f : α → Option γ) : List α → Option (List γ)
  | [] => some []
  | a :: r => (f a).bind fun y => (mapO f r).bind fun ys => some (y :: ys)
@[irreducible] noncomputable def capG (n : Nat) : Option Unit := @ite _ (n ≤ 1000000) (Classical.propDecidable _) (some ()) none
@[irreducible] noncomputable def appG (xs : List α) (a : α) : Option (List α) := @ite _ (xs.length < 1000000) (Classical.propDecidable _) (some (xs ++ [a])) none
@[irreducible] noncomputable def extG (xs ys : List α) : Option (List α) := @ite _ (xs.length + ys.length ≤ 1000000) (Classical.propDecidable _) (some (xs ++ ys)) none
@[irreducible] noncomputable def insG (xs : List α) (j : Int) (a : α) : Option (List α) := @ite _ (xs.length < 1000000 ∧ 0 ≤ j ∧ j < 1000000000) (Classical.propDecidable _) (some (xs.take j.toNat ++ [a] ++ xs.drop j.toNat)) none
@[irreducible] def putG (xs : List α) (j : Int) (a : α) : Option (List α) := (ixN xs.length j).bind fun n => some (xs.set n a)
section
variable {Φ : β → Option ResS → Prop} {ε : List Ent} {T : Option β} {i : Nat} {m m2 : MoS}
theorem seq_nil (m : MoS) : mSeq m mNil = m := by
  funext ε
  unfold mSeq mNil
  cases m ε with
  | none => rfl
  | some r => cases r <;> rfl
theorem seq_assoc (a b c : MoS) : mSeq (mSeq a b) c = mSeq a (mSeq b c) := by
  funext ε
  unfold mSeq
  cases a ε with
  | none => rfl
  | some r => cases r <;> rfl
theorem qs_last (h : QS Φ (mSeq m mNil) ε T) : QS Φ m ε T := by rw [seq_nil] at h; exact h
theorem qs_assoc {a b : MoS} (h : QS Φ (mSeq a (mSeq b m2)) ε T) : QS Φ (mSeq (mSeq a b) m2) ε T := by rw [seq_assoc]; exact h
theorem qs_skip (h : QS Φ m2 ε T) : QS Φ (mSeq mNil m2) ε T := h
theorem qs_nil (h : ∀ o, T = some o → Φ o (some (.nx ε))) : QS Φ mNil ε T := h
theorem qs_fr {ε' : List Ent} (e : ε = ε') (h : QS Φ m ε' T) : QS Φ m ε T := e ▸ h
theorem qs_let {v : γ} {K : γ → Option β} (f : γ → List Ent) (h : ∀ z, QS Φ m (f z) (K z)) : QS Φ m (f v) (letO v K) := h v
theorem qs_end (h : QS (NX Φ) m ε T) : QS Φ (mSeq m m2) ε T := fun o ho => by
  have ⟨h1, h2⟩ := h o ho
  unfold mSeq
  cases hm : m ε with
  | none => rw [hm] at h2; exact h2.elim
  | some r =>
    rw [hm] at h1 h2
    cases r <;> first | exact h1 | exact h2.elim
theorem fin {x : β} {q : Option ResS} (h : Φ x q) : ∀ o, some x = some o → Φ o q := fun o e => by cases e; exact h
theorem no_rt {x : β} {d : D} {ε' : List Ent} (h : Φ x (some (.rt d ε'))) : NO Φ x (some (.rt d ε')) := ⟨h, trivial⟩
theorem no_ro {x : β} {d : List D} {ε' : List Ent} (h : Φ x (some (.ro d ε'))) : NO Φ x (some (.ro d ε')) := ⟨h, trivial⟩
theorem no_ex {x : β} {d : Xn} {ε' : List Ent} (h : Φ x (some (.ex d ε'))) : NO Φ x (some (.ex d ε')) := ⟨h, trivial⟩
theorem nx_ct {x : β} {ε' : List Ent} (h : Φ x (some (.ct ε'))) : NX Φ x (some (.ct ε')) := ⟨h, trivial⟩
theorem nx_bk {x : β} {ε' : List Ent} (h : Φ x (some (.bk ε'))) : NX Φ x (some (.bk ε')) := ⟨h, trivial⟩
theorem nx_rt {x : β} {d : D} {ε' : List Ent} (h : Φ x (some (.rt d ε'))) : NX Φ x (some (.rt d ε')) := ⟨h, trivial⟩
theorem nx_ro {x : β} {d : List D} {ε' : List Ent} (h : Φ x (some (.ro d ε'))) : NX Φ x (some (.ro d ε')) := ⟨h, trivial⟩
theorem nx_ex {x : β} {d : Xn} {ε' : List Ent} (h : Φ x (some (.ex d ε'))) : NX Φ x (some (.ex d ε')) := ⟨h, trivial⟩
/-- a computation, then a statement -/
theorem qs_then {f : Mo δ} {k : δ → MoS} (h : QC (XP Φ) f ε T fun d ε1 T1 => QS Φ (mSeq (k d) m2) ε1 T1) : QS Φ (mSeq (mThen f k) m2) ε T := fun o ho => by
  rcases h o ho with ⟨d, ε', T', e, h1, h2⟩ | ⟨x, ε', e, h1⟩
  · have : mSeq (mThen f k) m2 ε = mSeq (k d) m2 ε' := by unfold mSeq mThen; rw [e]
    rw [this]; exact h2 o h1
  · have : mSeq (mThen f k) m2 ε = some (.ex x ε') := by unfold mSeq mThen; rw [e]
    rw [this]; exact h1 ε'
theorem qs_set {e : Mo D} (h : QC (XP Φ) e ε T fun d ε1 T1 => QS Φ m2 (ε1.set i (.dat d)) T1) : QS Φ (mSeq (mSet i e) m2) ε T := qs_then (qc_imp h fun _ _ _ h => h)
theorem qs_setO {e : Mo (List D)} (h : QC (XP Φ) e ε T fun d ε1 T1 => QS Φ m2 (ε1.set i (.own d)) T1) : QS Φ (mSeq (mSetO i e) m2) ε T := qs_then (qc_imp h fun _ _ _ h => h)
theorem qs_drop {e : Mo D} (h : QC (XP Φ) e ε T fun d ε1 T1 => QS Φ m2 ε1 T1) : QS Φ (mSeq (mDrop e) m2) ε T := qs_then (qc_imp h fun _ _ _ h => h)
theorem qs_asg {t : Tg} {e : Mo D} (h : QC (XP Φ) e ε T fun d ε1 T1 => ∃ ds, t.parts d = some ds ∧ QS Φ m2 (setL ε1 t.is ds) T1) : QS Φ (mSeq (mAsg t e) m2) ε T := qs_then (qc_imp h fun d ε1 T1 ⟨ds, h1, h2⟩ o ho => by
  unfold mSeq; rw [h1]; exact h2 o ho)
theorem qs_ret {e : Mo D} (h : QC (XP Φ) e ε T fun d ε1 T1 => ∀ o, T1 = some o → Φ o (some (.rt d ε1))) : QS Φ (mRet e) ε T := qs_last (qs_then (qc_imp h fun _ _ _ h => h))
theorem qs_retO {e : Mo (List D)} (h : QC (XP Φ) e ε T fun d ε1 T1 => ∀ o, T1 = some o → Φ o (some (.ro d ε1))) : QS Φ (mRetO e) ε T := qs_last (qs_then (qc_imp h fun _ _ _ h => h))
theorem qs_retOwn {ds : List D} (h0 : ε[i]? = some (.own ds)) (h : ∀ o, T = some o → Φ o (some (.ro ds ε))) : QS Φ (mRetOwn i) ε T := fun o ho => by unfold mRetOwn; rw [h0]; exact h o ho
theorem qs_retN (h : ∀ o, T = some o → Φ o (some (.rt .non ε))) : QS Φ mRetN ε T := h
theorem qs_if {c : Mo Bool} {a b : MoS} (h : QC (XP Φ) c ε T fun x ε1 T1 => ∃ TA TB, T1 = (if x = true then TA else TB) ∧ QS Φ (mSeq a m2) ε1 TA ∧ QS Φ (mSeq b m2) ε1 TB) : QS Φ (mSeq (mIfS c a b) m2) ε T :=
  qs_then (qc_imp h fun x ε1 T1 ⟨TA, TB, e, h1, h2⟩ => by
    subst e
    cases x with
    | true => rw [if_pos rfl, if_pos rfl]; exact h1
    | false => rw [if_neg (by simp), if_neg (by simp)]; exact h2)
theorem qs_join {K : σ → Option β} {t : Option σ} (F : σ → List Ent) (h : QS (GO F) m ε t) (hk : ∀ s, QS Φ m2 (F s) (K s)) : QS Φ (mSeq m m2) ε (t.bind K) := fun o ho => by
  cases ht : t with
  | none => rw [ht] at ho; cases ho
  | some s =>
    rw [ht] at ho
    have e : m ε = _ := h s ht
    have : mSeq m m2 ε = m2 (F s) := by unfold mSeq; rw [e]
    rw [this]
    exact hk s o ho
/-- a block that goes on or ends -/
theorem qs_joinL {K : σ → Option β} {t : Option (LS σ β)} (F : σ → List Ent) (h : QS (fun (o : LS σ β) q => match o with | .go s => q = some (.nx (F s)) | .brk _ => False | .out o => NO Φ o q) m ε t) (hk : ∀ s, QS Φ m2 (F s) (K s)) :
    QS Φ (mSeq m m2) ε (t.bind fun z => match z with | .go s => K s | .brk _ => none | .out o => some o) := fun o ho => by
  cases ht : t with
  | none => rw [ht] at ho; cases ho
  | some z =>
    rw [ht] at ho
    have e := h z ht
    cases z with
    | go s =>
      have e : m ε = _ := e
      have : mSeq m m2 ε = m2 (F s) := by unfold mSeq; rw [e]
      rw [this]
      exact hk s o ho
    | brk s => exact e.elim
    | out o' =>
      cases ho
      have : QS (NX Φ) m ε (some o) := fun o'' h => by
        cases h
        refine ⟨e.1, ?_⟩
        have e2 := e.2
        cases hm : m ε with
        | none => rw [hm] at e2; exact e2
        | some r => rw [hm] at e2; cases r <;> first | exact trivial | exact e2
      exact qs_end this o rfl
theorem qs_thenE {f : Mo δ} {k : δ → MoS} (hm : m ε = mThen f k ε) (h : QC (XP Φ) f ε T fun d ε1 T1 => QS Φ (mSeq (k d) m2) ε1 T1) : QS Φ (mSeq m m2) ε T := fun o ho => by
  have : mSeq m m2 ε = mSeq (mThen f k) m2 ε := by unfold mSeq; rw [hm]
  rw [this]
  exact qs_then h o ho
theorem seq_at {ε' : List Ent} (h : m ε = some (.nx ε')) : mSeq m m2 ε = m2 ε' := by unfold mSeq; rw [h]
structure Ob (en : List D → Ent) : Prop where
  get : ∀ l, (en l).get = some l
  put : ∀ l l', Ent.put l' (en l) = en l'
theorem ob_own : Ob Ent.own := ⟨fun _ => rfl, fun _ _ => rfl⟩
theorem ob_io : Ob Ent.io := ⟨fun _ => rfl, fun _ _ => rfl⟩
def appK (i : Nat) (d : D) : MoS := fun ε => match ε[i]? with
  | none => none
  | some e => match e.get with
    | none => none
    | some ps => if ps.length < 1000000 then some (.nx (ε.set i (e.put (ps ++ [d])))) else none
theorem qs_app {en : List D → Ent} (O : Ob en) {v : Mo D} {e : α → D} {ps0 : List D} (h0 : ε[i]? = some (en ps0)) (h : QC (XP Φ) v ε T fun d ε1 T1 => ∃ (xs : List α) (a : α) (K : List α → Option β), d = e a ∧ ε1[i]? = some (en (xs.map e)) ∧ T1 = (appG xs a).bind K ∧ ∀ ys : List α, QS Φ m2 (ε1.set i (en (ys.map e))) (K ys)) : QS Φ (mSeq (mApp i v) m2) ε T := by
  refine qs_thenE (k := appK i) (by unfold mApp; rw [h0, Option.bind_some, O.get]; rfl) (qc_imp h fun d ε1 T1 h1 o ho => ?_)
  obtain ⟨xs, a, K, rfl, q1, rfl, q2⟩ := h1
  unfold appG at ho
  by_cases hl : xs.length < 1000000
  · rw [if_pos hl, Option.bind_some] at ho
    rw [seq_at (ε' := ε1.set i (en ((xs ++ [a]).map e))) (by
      unfold appK
      rw [q1]
      dsimp only
      rw [O.get]
      dsimp only
      rw [if_pos (by rw [List.length_map]; exact hl), O.put, List.map_append]
      rfl)]
    exact q2 _ o ho
  · rw [if_neg hl] at ho; cases ho
def extK (i : Nat) (d : D) : MoS := fun ε => match ε[i]?, d with
    | some e, .lst ds => (match e.get with
      | none => none
      | some ps => if ps.length + ds.length ≤ 1000000 then some (.nx (ε.set i (e.put (ps ++ ds)))) else none)
    | _, _ => none
theorem qs_ext {en : List D → Ent} (O : Ob en) {v : Mo D} {e : α → D} {ps0 : List D} (h0 : ε[i]? = some (en ps0)) (h : QC (XP Φ) v ε T fun d ε1 T1 => ∃ (xs ys : List α) (K : List α → Option β), d = eL e ys ∧ ε1[i]? = some (en (xs.map e)) ∧ T1 = (extG xs ys).bind K ∧ ∀ ys : List α, QS Φ m2 (ε1.set i (en (ys.map e))) (K ys)) : QS Φ (mSeq (mExt i v) m2) ε T := by
  refine qs_thenE (k := extK i) (by unfold mExt; rw [h0, Option.bind_some, O.get]; rfl) (qc_imp h fun d ε1 T1 h1 o ho => ?_)
  obtain ⟨xs, ys, K, rfl, q1, rfl, q2⟩ := h1
  unfold extG at ho
  by_cases hl : xs.length + ys.length ≤ 1000000
  · rw [if_pos hl, Option.bind_some] at ho
    rw [seq_at (ε' := ε1.set i (en ((xs ++ ys).map e))) (by
      unfold extK
      rw [q1]
      dsimp only
      rw [O.get]
      dsimp only
      rw [if_pos (by rw [List.length_map, List.length_map]; exact hl), O.put, List.map_append])]
    exact q2 _ o ho
  · rw [if_neg hl] at ho; cases ho
def insK (i : Nat) (ds : List D) : MoS := fun ε => match ε[i]?, insArg ds with
    | some e, some (j, d) => (match e.get with
      | none => none
      | some ps => if ps.length < 1000000 ∧ 0 ≤ j ∧ j < 1000000000 then some (.nx (ε.set i (e.put (ps.take j.toNat ++ [d] ++ ps.drop j.toNat)))) else none)
    | _, _ => none
theorem qs_ins {en : List D → Ent} (O : Ob en) {v : Mo (List D)} {e : α → D} {ps0 : List D} (h0 : ε[i]? = some (en ps0)) (h : QC (XP Φ) v ε T fun d ε1 T1 => ∃ (xs : List α) (j : Int) (a : α) (K : List α → Option β), d = [.int j, e a] ∧ ε1[i]? = some (en (xs.map e)) ∧ T1 = (insG xs j a).bind K ∧ ∀ ys : List α, QS Φ m2 (ε1.set i (en (ys.map e))) (K ys)) : QS Φ (mSeq (mIns i v) m2) ε T := by
  refine qs_thenE (k := insK i) (by unfold mIns; rw [h0, Option.bind_some, O.get]; rfl) (qc_imp h fun d ε1 T1 h1 o ho => ?_)
  obtain ⟨xs, j, a, K, rfl, q1, rfl, q2⟩ := h1
  unfold insG at ho
  by_cases hl : xs.length < 1000000 ∧ 0 ≤ j ∧ j < 1000000000
  · rw [if_pos hl, Option.bind_some] at ho
    rw [seq_at (ε' := ε1.set i (en ((xs.take j.toNat ++ [a] ++ xs.drop j.toNat).map e))) (by
      unfold insK
      rw [q1]
      dsimp only [insArg]
      rw [O.get]
      dsimp only
      rw [if_pos (by rw [List.length_map]; exact hl), O.put, List.map_append, List.map_append, List.map_take, List.map_drop]
      rfl)]
    exact q2 _ o ho
  · rw [if_neg hl] at ho; cases ho
def putK (i : Nat) (fk : Mo D) (d : D) : MoS := fun ε1 => match (ε1[i]?).bind Ent.get with
  | none => none
  | some _ => mThen fk (fun k ε => match ε[i]? with
    | none => none
    | some e => match e.get with
      | none => none
      | some ps => match k with
        | .int j => (match ixN ps.length j with
          | some n => some (.nx (ε.set i (e.put (ps.set n d))))
          | none => none)
        | _ => none) ε1
def putK2 (i : Nat) (d k : D) : MoS := fun ε => match ε[i]? with
    | none => none
    | some e => match e.get with
      | none => none
      | some ps => match k with
        | .int j => (match ixN ps.length j with
          | some n => some (.nx (ε.set i (e.put (ps.set n d))))
          | none => none)
        | _ => none
theorem qs_put {en : List D → Ent} (O : Ob en) {fv fk : Mo D} {e : α → D} (h : QC (XP Φ) fv ε T fun d ε1 T1 => (∃ ps0, ε1[i]? = some (en ps0)) ∧ QC (XP Φ) fk ε1 T1 fun k ε2 T2 => ∃ (xs : List α) (a : α) (j : Int) (K : List α → Option β), d = e a ∧ k = .int j ∧ ε2[i]? = some (en (xs.map e)) ∧ T2 = (putG xs j a).bind K ∧ ∀ ys : List α, QS Φ m2 (ε2.set i (en (ys.map e))) (K ys)) : QS Φ (mSeq (mPut i fv fk) m2) ε T := by
  refine qs_thenE (f := fv) (k := putK i fk) rfl (qc_imp h fun d ε1 T1 h1 => ?_)
  obtain ⟨⟨ps0, h0⟩, h1⟩ := h1
  refine qs_thenE (k := putK2 i d) (by unfold putK; rw [h0, Option.bind_some, O.get]; rfl) (qc_imp h1 fun k ε2 T2 h2 o ho => ?_)
  obtain ⟨xs, a, j, K, rfl, rfl, q1, rfl, q2⟩ := h2
  unfold putG at ho
  cases hn : ixN xs.length j with
  | none => rw [hn] at ho; cases ho
  | some n =>
    rw [hn] at ho
    rw [seq_at (ε' := ε2.set i (en ((xs.set n a).map e))) (by
      unfold putK2
      rw [q1]
      dsimp only
      rw [O.get]
      dsimp only
      rw [List.length_map, hn]
      dsimp only
      rw [O.put, List.map_set])]
    exact q2 _ o ho
def augK (g : D → D → Option D) (i : Nat) (x y : D) : MoS := fun ε' => match g x y with
    | some z => some (.nx (ε'.set i (.dat z)))
    | none => none
theorem qs_aug {g : D → D → Option D} {f : Mo D} {x : D} (h0 : ε[i]? = some (.dat x)) (h : QC (XP Φ) f ε T fun d ε1 T1 => QT (g x d) T1 fun c T2 => QS Φ m2 (ε1.set i (.dat c)) T2) : QS Φ (mSeq (mAug g i f) m2) ε T := by
  refine qs_thenE (k := augK g i x) (by unfold mAug; rw [h0]; rfl) (qc_imp h fun d ε1 T1 h1 o ho => ?_)
  obtain ⟨c, T', e1, h2, h3⟩ := h1 o ho
  rw [seq_at (ε' := ε1.set i (.dat c)) (by unfold augK; rw [e1])]
  exact h3 o h2
/-- ghosts -/
theorem qs_pre {is : List Nat} (h : QS Φ (mSeq m m2) (frzs is ε) T) : QS Φ (mSeq (mPre is m) m2) ε T := h
theorem qs_pre1 {is : List Nat} (h : QS Φ m (frzs is ε) T) : QS Φ (mPre is m) ε T := h
/-- a block that is tidied at its end -/
def TG (is js : List Nat) (F : σ → List Ent) (s : σ) (q : Option ResS) : Prop := ∃ ε', q = some (.nx ε') ∧ clrs js (frzs is ε') = F s
def TC (is js : List Nat) (F : σ → List Ent) (s : σ) (q : Option ResS) : Prop := ∃ ε', (q = some (.nx ε') ∨ q = some (.ct ε')) ∧ clrs js (frzs is ε') = F s
def TLo (is js : List Nat) (F : σ → List Ent) (Φ : β → Option ResS → Prop) : LS σ β → Option ResS → Prop
  | .go s, q => TC is js F s q
  | .brk s, q => ∃ ε', q = some (.bk ε') ∧ clrs js (frzs is ε') = F s
  | .out o, q => NO Φ o q
def TGL (is js : List Nat) (F : σ → List Ent) (Φ : β → Option ResS → Prop) : LS σ β → Option ResS → Prop
  | .go s, q => TG is js F s q
  | .brk _, _ => False
  | .out o, q => NO Φ o q
theorem qs_post {is js : List Nat} {t : Option σ} {K : σ → Option β} (F : σ → List Ent) (h : QS (TG is js F) m ε t) (hk : ∀ s, QS Φ m2 (F s) (K s)) : QS Φ (mSeq (mPost is js m) m2) ε (t.bind K) := by
  refine qs_join F (fun s hs => ?_) hk
  obtain ⟨ε', e, e2⟩ := h s hs
  show mPost is js m ε = _
  unfold mPost; rw [e]; dsimp only; rw [e2]
theorem post_out {is js : List Nat} (h : isOut (m ε)) : mPost is js m ε = m ε := by
  unfold mPost
  cases hm : m ε with
  | none => rfl
  | some r => rw [hm] at h; cases r <;> first | rfl | exact h.elim
theorem qs_postL {is js : List Nat} {t : Option (LS σ β)} {K : σ → Option β} (F : σ → List Ent) (h : QS (TGL is js F Φ) m ε t) (hk : ∀ s, QS Φ m2 (F s) (K s)) :
    QS Φ (mSeq (mPost is js m) m2) ε (t.bind fun z => match z with | .go s => K s | .brk _ => none | .out o => some o) := by
  refine qs_joinL F (fun z hz => ?_) hk
  have h1 := h z hz
  cases z with
  | go s =>
    obtain ⟨ε', e, e2⟩ := h1
    show mPost is js m ε = _
    unfold mPost; rw [e]; dsimp only; rw [e2]
  | brk s => exact h1
  | out o =>
    show NO Φ o (mPost is js m ε)
    rw [post_out h1.2]
    exact h1
/-! loops -/
def turn (q : Option ResS) (go : MoS) : Option ResS := match q with
  | some (.nx ε') => go ε'
  | some (.ct ε') => go ε'
  | some (.bk ε') => some (.nx ε')
  | r => r
theorem forGo_cons {t : Tg} {body : MoS} {d : D} {r ps : List D} (h : t.parts d = some ps) : forGo t body (d :: r) ε = turn (body (setL ε t.is ps)) (forGo t body r) := by
  rw [forGo.eq_2]
  dsimp only
  rw [h]
  rfl
theorem whGo_succ {t : Mo Bool} {body : MoS} {n : Nat} {ε' : List Ent} (h : t ε = some (.ok true ε')) : whGo t body (n + 1) ε = turn (body ε') (whGo t body n) := by
  rw [whGo.eq_2]
  unfold mThen
  rw [h]
  rfl
theorem qs_for {fi : Mo (List D)} {t : Tg} {body : MoS} (h : QC (XP Φ) fi ε T fun ds ε1 T1 => ∃ (α σ : Type) (xs : List α) (e : α → D) (s0 : σ) (F : σ → List Ent) (b : α → σ → Option σ) (K : σ → Option β), ds = xs.map e ∧ ε1 = F s0 ∧ T1 = (foldO b xs s0).bind K ∧
    (∀ a s, ∃ ps, t.parts (e a) = some ps ∧ QS (GC F) body (setL (F s) t.is ps) (b a s)) ∧ ∀ s, QS Φ m2 (F s) (K s)) : QS Φ (mSeq (mFor fi t body) m2) ε T := by
  refine qs_then (qc_imp h fun ds ε1 T1 h1 => ?_)
  obtain ⟨α, σ, xs, e, s0, F, b, K, rfl, rfl, rfl, hb, hk⟩ := h1
  refine qs_join F (fun s hs => ?_) hk
  show forGo t body (xs.map e) (F s0) = some (.nx (F s))
  induction xs generalizing s0 with
  | nil => cases hs; rfl
  | cons a r ih =>
    unfold foldO at hs
    cases h1 : b a s0 with
    | none => rw [h1] at hs; cases hs
    | some s1 =>
      rw [h1, Option.bind_some] at hs
      obtain ⟨ps, q1, q2⟩ := hb a s0
      have := ih (s0 := s1) hs
      rw [List.map_cons]
      unfold forGo
      rw [q1]
      dsimp only
      rcases q2 s1 h1 with q | q <;> (rw [q]; exact this)
theorem qs_forS {fi : Mo (List D)} {t : Tg} {body : MoS} (h : QC (XP Φ) fi ε T fun ds ε1 T1 => ∃ (α σ : Type) (xs : List α) (e : α → D) (s0 : σ) (F : σ → List Ent) (b : α → σ → Option (LS σ β)) (K : σ → Option β), ds = xs.map e ∧ ε1 = F s0 ∧ T1 = forS b xs s0 K ∧
    (∀ a s, ∃ ps, t.parts (e a) = some ps ∧ QS (LO F Φ) body (setL (F s) t.is ps) (b a s)) ∧ ∀ s, QS Φ m2 (F s) (K s)) : QS Φ (mSeq (mFor fi t body) m2) ε T := by
  refine qs_then (qc_imp h fun ds ε1 T1 h1 => ?_)
  obtain ⟨α, σ, xs, e, s0, F, b, K, rfl, rfl, rfl, hb, hk⟩ := h1
  intro o ho
  induction xs generalizing s0 with
  | nil =>
    show mSeq (fun ε => some (.nx ε)) m2 (F s0) |> Φ o
    exact hk s0 o ho
  | cons a r ih =>
    unfold forS at ho
    cases h1 : b a s0 with
    | none => rw [h1] at ho; cases ho
    | some z =>
      rw [h1, Option.bind_some] at ho
      obtain ⟨ps, q1, q2⟩ := hb a s0
      have q3 := q2 z h1
      have gg : mSeq (forGo t body ((a :: r).map e)) m2 (F s0) = (match turn (body (setL (F s0) t.is ps)) (forGo t body (r.map e)) with | some (.nx ε') => m2 ε' | r => r) := by
        unfold mSeq
        rw [List.map_cons, forGo_cons q1]
        all_goals rfl
      rw [gg]
      cases z with
      | go s1 =>
        dsimp only at ho
        have := ih s1 ho
        rcases q3 with q | q <;> (rw [q]; exact this)
      | brk s1 =>
        dsimp only at ho
        have q : body _ = _ := q3
        rw [q]
        exact hk s1 o ho
      | out o1 =>
        dsimp only at ho
        cases ho
        obtain ⟨q3, q4⟩ := q3
        cases hq : body (setL (F s0) t.is ps) with
        | none => rw [hq] at q4; exact q4.elim
        | some w =>
          rw [hq] at q3 q4
          cases w <;> first | exact q3 | exact q4.elim
theorem qs_while {t : Mo Bool} {body : MoS} {n : Nat} {s0 : σ} (F : σ → List Ent) {c : σ → Option Bool} {b : σ → Option (LS σ β)} {K : σ → Option β} (he : ε = F s0)
    (hc : ∀ s, QC (fun _ _ => False) t (F s) (c s) fun x ε1 T1 => T1 = some x ∧ ε1 = F s) (hb : ∀ s, QS (LO F Φ) body (F s) (b s)) (hk : ∀ s, QS Φ m2 (F s) (K s)) : QS Φ (mSeq (whGo t body n) m2) ε (whS c b n s0 K) := by
  subst he
  intro o ho
  induction n generalizing s0 with
  | zero => cases ho
  | succ n ih =>
    unfold whS at ho
    cases h1 : c s0 with
    | none => rw [h1] at ho; cases ho
    | some x =>
      rw [h1, Option.bind_some] at ho
      rcases hc s0 x h1 with ⟨d, ε', T', e, p1, p2, p3⟩ | ⟨_, _, _, z⟩
      · subst p3 p2
        cases p1
        cases x with
        | false =>
          rw [if_neg (by simp)] at ho
          have : mSeq (whGo t body (n + 1)) m2 (F s0) = m2 (F s0) := by
            unfold mSeq whGo mThen; rw [e]; rfl
          rw [this]
          exact hk s0 o ho
        | true =>
          rw [if_pos rfl] at ho
          cases h2 : b s0 with
          | none => rw [h2] at ho; cases ho
          | some z =>
            rw [h2, Option.bind_some] at ho
            have q3 := hb s0 z h2
            have gg : mSeq (whGo t body (n + 1)) m2 (F s0) = (match turn (body (F s0)) (whGo t body n) with | some (.nx ε') => m2 ε' | r => r) := by
              unfold mSeq
              rw [whGo_succ e]
              all_goals rfl
            rw [gg]
            cases z with
            | go s1 =>
              dsimp only at ho
              have := ih ho
              rcases q3 with q | q <;> (rw [q]; exact this)
            | brk s1 =>
              dsimp only at ho
              have q : body _ = _ := q3
              rw [q]
              exact hk s1 o ho
            | out o1 =>
              dsimp only at ho
              cases ho
              obtain ⟨q3, q4⟩ := q3
              cases hq : body (F s0) with
              | none => rw [hq] at q4; exact q4.elim
              | some w =>
                rw [hq] at q3 q4
                cases w <;> first | exact q3 | exact q4.elim
      · exact z.elim
theorem qs_tidyC {is js : List Nat} {t : Option σ} {F : σ → List Ent} (h : QS (TC is js F) m ε t) : QS (GC F) (mPost is js m) ε t := fun s hs => by
  obtain ⟨ε', e, e2⟩ := h s hs
  rcases e with e | e
  · exact .inl (by unfold mPost; rw [e]; dsimp only; rw [e2])
  · exact .inr (by unfold mPost; rw [e]; dsimp only; rw [e2])
theorem qs_tidyL {is js : List Nat} {t : Option (LS σ β)} {F : σ → List Ent} (h : QS (TLo is js F Φ) m ε t) : QS (LO F Φ) (mPost is js m) ε t := fun z hz => by
  have h1 := h z hz
  cases z with
  | go s =>
    obtain ⟨ε', e, e2⟩ := h1
    rcases e with e | e
    · exact .inl (by unfold mPost; rw [e]; dsimp only; rw [e2])
    · exact .inr (by unfold mPost; rw [e]; dsimp only; rw [e2])
  | brk s =>
    obtain ⟨ε', e, e2⟩ := h1
    show mPost is js m ε = _
    unfold mPost; rw [e]; dsimp only; rw [e2]
  | out o =>
    show NO Φ o (mPost is js m ε)
    rw [post_out h1.2]
    exact h1
/-! what a def answers -/
abbrev RP (er : γ → D) : γ → Option ResS → Prop := fun r q => ∃ ε', q = some (.rt (er r) ε')
abbrev RPN : Unit → Option ResS → Prop := fun _ q => (∃ ε', q = some (.rt .non ε')) ∨ ∃ ε', q = some (.nx ε')
abbrev RQ (er : γ → D) (ep : δ → D) : γ × List δ → Option ResS → Prop := fun r q => ∃ es, q = some (.rt (er r.1) (.io (r.2.map ep) :: es))
abbrev RO (e : γ → D) : List γ → Option ResS → Prop := fun r q => ∃ ε', q = some (.ro (r.map e) ε')
abbrev RX (er : γ → D) : An γ → Option ResS → Prop := fun r q => match r with
  | .ret r => ∃ ε', q = some (.rt (er r) ε')
  | .exc x => ∃ ε', q = some (.ex x ε')
theorem run_P {n : Nat} {g : MoS} {ds : List D} {ε : List Ent} {er : γ → D} {t : Option γ} {r : γ} (h0 : env0 n ds = ε) (q : QS (RP er) g ε t) (h : t = some r) : runP n g ds = some (.ret (er r)) := by
  obtain ⟨ε', e⟩ := q r h
  unfold runP; rw [h0, e]; rfl
theorem run_PN {n : Nat} {g : MoS} {ds : List D} {ε : List Ent} {t : Option Unit} {r : Unit} (h0 : env0 n ds = ε) (q : QS RPN g ε t) (h : t = some r) : runP n g ds = some (.ret .non) := by
  rcases q r h with ⟨ε', e⟩ | ⟨ε', e⟩ <;> (unfold runP; rw [h0, e]; rfl)
theorem run_Q {n : Nat} {g : MoS} {ps ds : List D} {ε : List Ent} {er : γ → D} {ep : δ → D} {t : Option (γ × List δ)} {r : γ × List δ} (h0 : envQ n ps ds = ε) (q : QS (RQ er ep) g ε t) (h : t = some r) : runQ n g ps ds = some (.ret (er r.1), r.2.map ep) := by
  obtain ⟨ε', e⟩ := q r h
  unfold runQ; rw [h0, e]; rfl
theorem run_O {n : Nat} {g : MoS} {ds : List D} {ε : List Ent} {e : γ → D} {t : Option (List γ)} {r : List γ} (h0 : env0 n ds = ε) (q : QS (RO e) g ε t) (h : t = some r) : runO n g ds = some (r.map e) := by
  obtain ⟨ε', e⟩ := q r h
  unfold runO; rw [h0, e]
theorem run_X {n : Nat} {g : MoS} {ds : List D} {ε : List Ent} {er : γ → D} {t : Option (An γ)} {r : An γ} (h0 : env0 n ds = ε) (q : QS (RX er) g ε t) (h : t = some r) : runP n g ds = some (r.enc er) := by
  have := q r h
  cases r with
  | ret r => obtain ⟨ε', e⟩ := this; unfold runP; rw [h0, e]; rfl
  | exc x => obtain ⟨ε', e⟩ := this; unfold runP; rw [h0, e]; rfl
end
end TL

set_option Elab.async false
set_option linter.all false
namespace TL
open PySem PySem.Spec L2 DL
variable {α β γ δ τ σ : Type}
/-! ## operators -/
@[irreducible] noncomputable def mulG (a b : Int) : Option Int := @ite _ (mulOk a b = true) (Classical.propDecidable _) (some (a * b)) none
@[irreducible] noncomputable def modG (a b : Int) : Option Int := @ite _ (0 < b) (Classical.propDecidable _) (some (a % b)) none
@[irreducible] noncomputable def divG (a b : Int) : Option Int := @ite _ (0 < b ∧ b < 1073741824) (Classical.propDecidable _) (some (a / b)) none
@[irreducible] noncomputable def divPG (a b : Int) : Option Int := @ite _ (0 < b) (Classical.propDecidable _) (some (a / b)) none
@[irreducible] noncomputable def powG (a b : Int) : Option Int := @ite _ (0 ≤ b ∧ b ≤ 1000000 ∧ a.natAbs < 2 ^ 64) (Classical.propDecidable _) (some (a ^ b.toNat)) none
@[irreducible] noncomputable def catG (xs ys : List α) : Option (List α) := @ite _ (xs.length + ys.length ≤ 1000000) (Classical.propDecidable _) (some (xs ++ ys)) none
@[irreducible] noncomputable def catSG (x y : Str) : Option Str := @ite _ (x.length + y.length ≤ 1000000) (Classical.propDecidable _) (some (x ++ y)) none
@[irreducible] noncomputable def maxG (xs : List Int) : Option Int := @ite _ (0 < xs.length) (Classical.propDecidable _) (some (maxI xs)) none
@[irreducible] noncomputable def minG (xs : List Int) : Option Int := @ite _ (0 < xs.length) (Classical.propDecidable _) (some (minI xs)) none
@[irreducible] def rngI (lo : Int) (n : Nat) : List Int := (List.range n).map fun k : Nat => lo + (k : Int)
@[irreducible] noncomputable def rng1G (j : Int) : Option (List Int) := @ite _ (inR j = true) (Classical.propDecidable _) (some (rngI 0 j.toNat)) none
@[irreducible] noncomputable def rng2G (i j : Int) : Option (List Int) := @ite _ (inR i = true ∧ inR j = true) (Classical.propDecidable _) (some (rngI i (j - i).toNat)) none
@[irreducible] def cutL (xs : List α) (lo hi : Option Int) : List α := (xs.drop (HT.sIx xs.length 0 lo)).take (HT.sIx xs.length xs.length hi - HT.sIx xs.length 0 lo)
@[irreducible] noncomputable def strG (i : Int) : Option Str := @ite _ (i.natAbs.log2 < 1920) (Classical.propDecidable _) (some (toString i)) none
@[irreducible] noncomputable def charG (z : Str) (i : Int) : Option Str := @ite _ (z.length ≤ 1000000) (Classical.propDecidable _) ((atI z.cps.toList i).map fun c => ⟨#[c]⟩) none
@[irreducible] def chars (z : Str) : List Str := z.cps.toList.map fun c => ⟨#[c]⟩
@[irreducible] noncomputable def slSG (z : Str) (lo hi : Option Int) : Option Str := @ite _ (z.length ≤ 1000000) (Classical.propDecidable _) (some (cutS z lo hi)) none
theorem mul_ok {a b c : Int} (h : mulG a b = some c) : gMul (eI a) (eI b) = some (eI c) := by
  unfold mulG at h
  split at h
  · rename_i q; cases h; simp [gMul, gI, q]
  · cases h
theorem mod_ok {a b c : Int} (h : modG a b = some c) : gMod (eI a) (eI b) = some (eI c) := by
  unfold modG at h
  split at h
  · rename_i q; cases h; simp [gMod, gI, q]
  · cases h
theorem div_ok {a b c : Int} (h : divG a b = some c) : gDiv (eI a) (eI b) = some (eI c) := by
  unfold divG at h
  split at h
  · rename_i q; cases h; simp [gDiv, gI, q]
  · cases h
theorem divP_ok {a b c : Int} (h : divPG a b = some c) : gDivP (eI a) (eI b) = some (eI c) := by
  unfold divPG at h
  split at h
  · rename_i q; cases h; simp [gDivP, gI, q]
  · cases h
theorem pow_ok {a b c : Int} (h : powG a b = some c) : gPow (eI a) (eI b) = some (eI c) := by
  unfold powG at h
  split at h
  · rename_i q; cases h; simp only [gPow, gI]; rw [if_pos (decide_eq_true q)]
  · cases h
theorem catL_ok {e : α → D} {x y z : List α} (h : catG x y = some z) : gCatL (eL e x) (eL e y) = some (eL e z) := by
  unfold catG at h
  split at h
  · rename_i q; cases h; simp [gCatL, q]
  · cases h
theorem catT_ok {e : α → D} {x y z : List α} (h : catG x y = some z) : gCatT (eT e x) (eT e y) = some (eT e z) := by
  unfold catG at h
  split at h
  · rename_i q; cases h; simp [gCatT, q]
  · cases h
theorem catS_ok {x y z : Str} (h : catSG x y = some z) : gCatS (eS x) (eS y) = some (eS z) := by
  unfold catSG at h
  split at h
  · rename_i q; cases h; simp [gCatS, q]
  · cases h
theorem atI_map {e : α → γ} {xs : List α} {i : Int} : atI (xs.map e) i = (atI xs i).map e := by
  unfold atI
  rw [List.length_map]
  cases ixN xs.length i with
  | none => rfl
  | some j => simp
theorem ixL_ok {e : α → D} {xs : List α} {i : Int} {c : α} (h : atI xs i = some c) : gIx (eL e xs) (eI i) = some (e c) := by
  show atI (xs.map e) i = _
  rw [atI_map, h]; rfl
theorem ixT_ok {e : α → D} {xs : List α} {i : Int} {c : α} (h : atI xs i = some c) : gIx (eT e xs) (eI i) = some (e c) := by
  show atI (xs.map e) i = _
  rw [atI_map, h]; rfl
theorem ixR_ok {e : α → D} {xs : List α} {i : Int} {c : α} (h : atI xs i = some c) : gIx (eR e xs) (eI i) = some (e c) := by
  show atI (xs.map e) i = _
  rw [atI_map, h]; rfl
theorem ixN_ok {e : α → D} {xs : List α} {i : Int} {c : α} (h : atI xs i = some c) : atI (xs.map e) i = some (e c) := by rw [atI_map, h]; rfl
theorem char_ok {z : Str} {i : Int} {c : Str} (h : charG z i = some c) : gIx (eS z) (eI i) = some (eS c) := by
  unfold charG at h
  split at h
  · rename_i q
    simp only [Option.map_eq_some_iff] at h
    obtain ⟨a, h1, rfl⟩ := h
    simp [gIx, q, h1]
  · cases h
theorem str_ok {i : Int} {c : Str} (h : strG i = some c) : gStr (eI i) = some (eS c) := by
  unfold strG at h
  split at h
  · rename_i q; cases h; simp [gStr, q]
  · cases h
theorem ints_map : ∀ xs : List Int, intsOf (xs.map eI) = some xs
  | [] => rfl
  | x :: r => by rw [List.map_cons]; unfold intsOf; rw [ints_map r]; rfl
theorem maxL_ok {xs : List Int} {c : Int} (h : maxG xs = some c) : gMaxL (eL eI xs) = some (eI c) := by
  unfold maxG at h
  unfold gMaxL listInts
  dsimp only
  rw [ints_map, Option.bind_some]
  split at h
  · rename_i q; cases h; rw [if_pos q]
  · cases h
theorem minL_ok {xs : List Int} {c : Int} (h : minG xs = some c) : gMinL (eL eI xs) = some (eI c) := by
  unfold minG at h
  unfold gMinL listInts
  dsimp only
  rw [ints_map, Option.bind_some]
  split at h
  · rename_i q; cases h; rw [if_pos q]
  · cases h
theorem maxT_ok {xs : List Int} {c : Int} (h : maxG xs = some c) : gMaxT (eT eI xs) = some (eI c) := by
  unfold maxG at h
  unfold gMaxT
  dsimp only
  rw [ints_map, Option.bind_some]
  split at h
  · rename_i q; cases h; rw [if_pos q]
  · cases h
theorem minT_ok {xs : List Int} {c : Int} (h : minG xs = some c) : gMinT (eT eI xs) = some (eI c) := by
  unfold minG at h
  unfold gMinT
  dsimp only
  rw [ints_map, Option.bind_some]
  split at h
  · rename_i q; cases h; rw [if_pos q]
  · cases h
theorem sorted_eq (xs : List Int) : gSorted (eL eI xs) = some (eL eI (sortI xs)) := by
  unfold gSorted listInts
  dsimp only
  rw [ints_map]; rfl
theorem lenL_eq {e : α → D} (xs : List α) : gLen (eL e xs) = some (eI xs.length) := by simp [gLen]
theorem lenT_eq {e : α → D} (xs : List α) : gLen (eT e xs) = some (eI xs.length) := by simp [gLen]
theorem lenR_eq {e : α → D} (xs : List α) : gLen (eR e xs) = some (eI xs.length) := by simp [gLen]
theorem rangeD_map (lo : Int) (n : Nat) : rangeD lo n = (rngI lo n).map eI := by
  unfold rangeD rngI
  rw [List.map_map]; rfl
theorem rng1_ok {j : Int} {xs : List Int} (h : rng1G j = some xs) : rng1 [eI j] = some (xs.map eI) := by
  unfold rng1G at h
  unfold rng1
  dsimp only
  split at h
  · rename_i q; cases h; rw [if_pos q, rangeD_map]
  · cases h
theorem rng2_ok {i j : Int} {xs : List Int} (h : rng2G i j = some xs) : rng2 [eI i, eI j] = some (xs.map eI) := by
  unfold rng2G at h
  unfold rng2
  dsimp only
  split at h
  · rename_i q; cases h; rw [if_pos q, rangeD_map]
  · cases h
theorem cut_map {e : α → D} (xs : List α) (lo hi : Option Int) : cutD (xs.map e) lo hi = (cutL xs lo hi).map e := by
  unfold cutD cutL
  rw [List.length_map, ← List.map_drop, ← List.map_take]
theorem slL_eq {e : α → D} (xs : List α) (lo hi : Option Int) : gSlL (eL e xs) lo hi = some (eL e (cutL xs lo hi)) := by
  show some (D.lst _) = _
  rw [cut_map]
theorem slR_eq {e : α → D} (xs : List α) (lo hi : Option Int) : gSlL (eR e xs) lo hi = some (eL e (cutL xs lo hi)) := by
  show some (D.lst _) = _
  rw [cut_map]
theorem slT_eq {e : α → D} (xs : List α) (lo hi : Option Int) : gSlT (eT e xs) lo hi = some (eT e (cutL xs lo hi)) := by
  show some (D.tup _) = _
  rw [cut_map]
theorem slS_ok {x y : Str} {lo hi : Option Int} (h : slSG x lo hi = some y) : gSlS (eS x) lo hi = some (eS y) := by
  unfold slSG at h
  split at h
  · rename_i q; cases h; simp [gSlS, q]
  · cases h
theorem strOf_eq (z : Str) : strOf (eS z) = some ((chars z).map eS) := by
  unfold strOf chars
  rw [List.map_map]; rfl
theorem bools_map : ∀ xs : List Bool, boolsOf (xs.map eB) = some xs
  | [] => rfl
  | x :: r => by rw [List.map_cons]; unfold boolsOf; rw [bools_map r]; rfl
theorem any_eq (xs : List Bool) : gAny (eL eB xs) = some (eB (xs.any id)) := by
  show Option.map _ (boolsOf (xs.map eB)) = _
  rw [bools_map]; rfl
theorem all_eq (xs : List Bool) : gAll (eL eB xs) = some (eB (xs.all id)) := by
  show Option.map _ (boolsOf (xs.map eB)) = _
  rw [bools_map]; rfl
theorem zipT_eq {e : α → D} {f : γ → D} (xs : List α) (ys : List γ) : zipD [eT e xs, eT f ys] = some ((xs.zip ys).map (e2 e f)) := by
  show some (((xs.map e).zip (ys.map f)).map _) = _
  rw [List.zip_map, List.map_map]; rfl
theorem zipL_eq {e : α → D} {f : γ → D} (xs : List α) (ys : List γ) : zipD [eL e xs, eL f ys] = some ((xs.zip ys).map (e2 e f)) := by
  show some (((xs.map e).zip (ys.map f)).map _) = _
  rw [List.zip_map, List.map_map]; rfl
section
variable {X : Xn → β → Prop} {ε : List Ent} {T : Option β} {k : D → List Ent → Option β → Prop} {kl : List D → List Ent → Option β → Prop}
theorem qc_lenN_ownM {i : Nat} {xs : List α} {e : α → D} (h : ε[i]? = some (.own (xs.map e))) (hk : k (.int xs.length) ε T) : QC X (mLenN i) ε T k := qc_lenN_own h (by rw [List.length_map]; exact hk)
theorem qc_lenN_ioM {i : Nat} {xs : List α} {e : α → D} (h : ε[i]? = some (.io (xs.map e))) (hk : k (.int xs.length) ε T) : QC X (mLenN i) ε T k := qc_lenN_io h (by rw [List.length_map]; exact hk)
theorem qc_lenN_datM {i : Nat} {d : D} {xs : List α} {e : α → D} (h : ε[i]? = some (.dat d)) (hd : seqOf d = some (xs.map e)) (hk : k (.int xs.length) ε T) : QC X (mLenN i) ε T k := qc_lenN_dat h hd (by rw [List.length_map]; exact hk)
theorem qc_fnO {n : Nat} {m : List D → Option (List D)} {f : Mo (List D)} (h : QC X f ε T fun ds ε1 T1 => ds.length = n ∧ QT (m ds) T1 fun c T2 => kl c ε1 T2) : QC X (mFnO n m f) ε T kl :=
  qc_bnd (qc_imp h fun ds ε1 T1 h1 => qc_lft (by rw [if_pos h1.1]; exact h1.2))
theorem qc_truthM {f : Mo D} {kb : Bool → List Ent → Option β → Prop} (h : QC X f ε T fun d ε1 T1 => ∃ (α : Type) (e : α → D) (xs : List α), seqOf d = some (xs.map e) ∧ kb (!xs.isEmpty) ε1 T1) : QC X (mTruth f) ε T kb :=
  qc_truth (qc_imp h fun d ε1 T1 ⟨α, e, xs, h1, h2⟩ => ⟨_, h1, by cases xs <;> exact h2⟩)
theorem isN_eq {e : α → D} (h : ∀ a, gIsN false (e a) .non = some (.bl false)) (v : Option α) : gIsN false (eO e v) .non = some (.bl v.isNone) := by
  cases v with
  | none => rfl
  | some a => exact h a
theorem notN_eq {e : α → D} (h : ∀ a, gIsN true (e a) .non = some (.bl true)) (v : Option α) : gIsN true (eO e v) .non = some (.bl v.isSome) := by
  cases v with
  | none => rfl
  | some a => exact h a
theorem qc_listRev {f : Mo D} (h : QC X f ε T fun d ε1 T1 => ∃ (α : Type) (xs : List α) (e : α → D), lstOf d = some (xs.map e) ∧ kl (xs.reverse.map e) ε1 T1) : QC X (mListRev f) ε T kl :=
  qc_bnd (qc_imp h fun d ε1 T1 ⟨α, xs, e, h1, h2⟩ => qc_lft (qt_tot _ (by rw [h1, Option.map_some, ← List.map_reverse]) h2))
theorem qc_listO {f : Mo (List D)} (h : QC X f ε T fun ds ε1 T1 => ∃ d es, ds = [d] ∧ seqOf d = some es ∧ kl es ε1 T1) : QC X (mListO f) ε T kl :=
  qc_bnd (qc_imp h fun d ε1 T1 ⟨d', es, h1, h2, h3⟩ => qc_lft (qt_tot es (by rw [h1]; exact h2) h3))
theorem qc_catO {f g : Mo D} {e : α → D} (h : QC X f ε T fun a ε1 T1 => QC X g ε1 T1 fun b ε2 T2 => ∃ (x y : List α) (K : List α → Option β), a = eL e x ∧ b = eL e y ∧ T2 = (catG x y).bind K ∧ ∀ z : List α, kl (z.map e) ε2 (K z)) : QC X (mCatO f g) ε T kl :=
  qc_bnd (qc_imp h fun a ε1 T1 h1 => qc_bnd (qc_imp h1 fun b ε2 T2 ⟨x, y, K, e1, e2, e3, h2⟩ => by
    subst e1 e2 e3
    refine qc_lft (qt_par (t := catG x y) (fun z : List α => z.map e) (fun z hz => ?_) h2)
    unfold catG at hz
    dsimp only
    split at hz
    · rename_i q; cases hz; rw [if_pos (by rw [List.length_map, List.length_map]; exact q), List.map_append]
    · cases hz))
theorem qc_sl {g : D → Option Int → Option Int → Option D} {f : Mo D} {fl fh : Mo (Option Int)} (h : QC X f ε T fun d ε1 T1 => QC X fl ε1 T1 fun lo ε2 T2 => QC X fh ε2 T2 fun hi ε3 T3 => QT (g d lo hi) T3 fun c T4 => k c ε3 T4) : QC X (mSl g f fl fh) ε T k :=
  qc_bnd (qc_imp h fun _ _ _ h1 => qc_bnd (qc_imp h1 fun _ _ _ h2 => qc_bnd (qc_imp h2 fun _ _ _ h3 => qc_lft h3)))
theorem qc_slO {f : Mo D} {fl fh : Mo (Option Int)} (h : QC X f ε T fun d ε1 T1 => QC X fl ε1 T1 fun lo ε2 T2 => QC X fh ε2 T2 fun hi ε3 T3 => ∃ (α : Type) (e : α → D) (xs : List α), lstOf d = some (xs.map e) ∧ kl ((cutL xs lo hi).map e) ε3 T3) : QC X (mSlO f fl fh) ε T kl :=
  qc_bnd (qc_imp h fun _ _ _ h1 => qc_bnd (qc_imp h1 fun _ _ _ h2 => qc_bnd (qc_imp h2 fun _ _ _ ⟨α, e, xs, h3, h4⟩ => qc_lft (qt_tot _ (by rw [h3, Option.map_some, cut_map]) h4))))
theorem qc_lo {f : Mo D} {ko : Option Int → List Ent → Option β → Prop} (h : QC X f ε T fun d ε1 T1 => ∃ i, d = .int i ∧ ko (some i) ε1 T1) : QC X (bnd f fun d => lft ((asI d).map some)) ε T ko :=
  qc_bnd (qc_imp h fun d ε1 T1 ⟨i, h1, h2⟩ => qc_lft (qt_tot (some i) (by rw [h1]; rfl) h2))
/-- comprehensions: each turn leaves the frame as it was -/
theorem lc_go {vs : List Nat} {t : Tg} {tt : Mo Bool} {te : Mo D} {ε0 : List Ent} {e : α → D} {c : α → Bool} {f : α → Option γ} {g : γ → D}
    (h : ∀ a, ∃ ps, t.parts (e a) = some ps ∧ QC (fun (_ : Xn) (_ : Bool) => False) tt (setL ε0 t.is ps) (some (c a)) (fun b ε1 T1 => T1 = some b ∧ wipeE ε1 vs = ε0 ∧ (c a = true → QC (fun (_ : Xn) (_ : γ) => False) te ε1 (f a) fun d ε' T' => ∃ y, T' = some y ∧ d = g y ∧ wipeE ε' vs = ε0))) :
    ∀ (xs : List α) (acc : List D) (ys : List γ), acc.length + xs.length ≤ 1000000 → mapO f (xs.filter c) = some ys → lcGo vs t tt te (xs.map e) acc ε0 = some (.ok (acc ++ ys.map g) ε0)
  | [], acc, ys, _, hm => by cases hm; simp [lcGo, pur]
  | a :: r, acc, ys, hl, hm => by
    rw [List.length_cons] at hl
    obtain ⟨ps, h1, h2⟩ := h a
    rw [List.map_cons]
    have eq : lcGo vs t tt te (e a :: r.map e) acc ε0 = (match tt (setL ε0 t.is ps) with
      | some (.ok true ε1) => (match te ε1 with
        | some (.ok y ε2) => if acc.length < 1000000 then lcGo vs t tt te (r.map e) (acc ++ [y]) (wipeE ε2 vs) else none
        | _ => none)
      | some (.ok false ε1) => lcGo vs t tt te (r.map e) acc (wipeE ε1 vs)
      | _ => none) := by
      rw [lcGo.eq_2]
      dsimp only
      rw [h1]
      all_goals rfl
    rw [eq]
    rcases h2 _ rfl with ⟨b, ε1, T1, e1, e2, e3, e4, h3⟩ | ⟨_, _, _, z⟩
    · rw [e3] at e2
      cases e2
      rw [e1]
      cases hc : c a with
      | false =>
        rw [List.filter_cons_of_neg (by rw [hc]; simp)] at hm
        dsimp only
        rw [e4]
        exact lc_go h r acc ys (by omega) hm
      | true =>
        rw [List.filter_cons_of_pos hc] at hm
        unfold mapO at hm
        cases hf : f a with
        | none => rw [hf] at hm; cases hm
        | some y =>
          rw [hf, Option.bind_some] at hm
          cases hr : mapO f (r.filter c) with
          | none => rw [hr] at hm; cases hm
          | some zs =>
            rw [hr, Option.bind_some] at hm
            cases hm
            rcases h3 hc y hf with ⟨d, ε', T', q1, q2, y', q3, q4, q5⟩ | ⟨_, _, _, z⟩
            · rw [q3] at q2; cases q2
              dsimp only
              rw [q1]
              dsimp only
              rw [if_pos (by omega), q5, lc_go h r (acc ++ [d]) zs (by rw [List.length_append, List.length_singleton]; omega) hr, q4]
              simp
            · exact z.elim
    · exact z.elim
theorem qc_lc {vs : List Nat} {fi : Mo (List D)} {t : Tg} {tt : Mo Bool} {te : Mo D} (h : QC X fi ε T fun ds ε1 T1 => ∃ (α γ : Type) (xs : List α) (e : α → D) (c : α → Bool) (f : α → Option γ) (g : γ → D) (K : List γ → Option β), ds = xs.map e ∧ ε1 = ε ∧ backE ε (wipeE ε vs) vs = ε ∧ T1 = (capG xs.length).bind (fun _ => (mapO f (xs.filter c)).bind K) ∧
    (∀ a, ∃ ps, t.parts (e a) = some ps ∧ QC (fun (_ : Xn) (_ : Bool) => False) tt (setL (wipeE ε vs) t.is ps) (some (c a)) (fun b ε1 T1 => T1 = some b ∧ wipeE ε1 vs = wipeE ε vs ∧ (c a = true → QC (fun (_ : Xn) (_ : γ) => False) te ε1 (f a) fun d ε' T' => ∃ y, T' = some y ∧ d = g y ∧ wipeE ε' vs = wipeE ε vs))) ∧ ∀ ys, kl (ys.map g) ε (K ys)) : QC X (mLc vs fi t tt te) ε T kl :=
  qc_bnd (qc_imp h fun ds ε1 T1 ⟨α, γ, xs, e, c, f, g, K, e1, e2, e3, e4, h1, h2⟩ o ho => by
    subst e1 e2 e4
    unfold capG at ho
    split at ho
    · rename_i q
      rw [Option.bind_some] at ho
      cases hm : mapO f (xs.filter c) with
      | none => rw [hm] at ho; cases ho
      | some ys =>
        rw [hm, Option.bind_some] at ho
        refine .inl ⟨_, _, _, ?_, ho, h2 ys⟩
        have := lc_go h1 xs [] ys (by simpa using q) hm
        rw [List.nil_append] at this
        dsimp only
        rw [this]
        dsimp only
        rw [e3]
    · cases ho)
/-- without a condition -/
theorem qc_lcA {vs : List Nat} {fi : Mo (List D)} {t : Tg} {te : Mo D} (h : QC X fi ε T fun ds ε1 T1 => ∃ (α γ : Type) (xs : List α) (e : α → D) (f : α → Option γ) (g : γ → D) (K : List γ → Option β), ds = xs.map e ∧ ε1 = ε ∧ backE ε (wipeE ε vs) vs = ε ∧ T1 = (capG xs.length).bind (fun _ => (mapO f xs).bind K) ∧
    (∀ a, ∃ ps, t.parts (e a) = some ps ∧ wipeE (setL (wipeE ε vs) t.is ps) vs = wipeE ε vs ∧ QC (fun (_ : Xn) (_ : γ) => False) te (setL (wipeE ε vs) t.is ps) (f a) fun d ε' T' => ∃ y, T' = some y ∧ d = g y ∧ wipeE ε' vs = wipeE ε vs) ∧ ∀ ys, kl (ys.map g) ε (K ys)) : QC X (mLc vs fi t (pur true) te) ε T kl :=
  qc_lc (qc_imp h fun ds ε1 T1 ⟨α, γ, xs, e, f, g, K, e1, e2, e3, e4, h1, h2⟩ =>
    ⟨α, γ, xs, e, fun _ => true, f, g, K, e1, e2, e3, by rw [e4]; congr 1; funext; rw [List.filter_eq_self.mpr (fun _ _ => rfl)], fun a => by
      obtain ⟨ps, p1, p3, p2⟩ := h1 a
      exact ⟨ps, p1, qc_pur ⟨rfl, p3, fun _ => p2⟩⟩, h2⟩)
end
end TL

set_option Elab.async false
set_option linter.all false
namespace TL
open PySem PySem.Spec L2 DL
variable {α β γ δ τ σ : Type}
def absT (x : Int) : Int := if x < 0 then -x else x
def min2T (i j : Int) : Int := if j < i then j else i
def max2T (i j : Int) : Int := if j > i then j else i
@[irreducible] noncomputable def lenSG (z : Str) : Option Int := @ite _ (z.length ≤ 1000000) (Classical.propDecidable _) (some (z.length : Int)) none
theorem lenS_ok {z : Str} {c : Int} (h : lenSG z = some c) : gLen (eS z) = some (eI c) := by
  unfold lenSG at h
  split at h
  · rename_i q; cases h; simp [gLen, q]
  · cases h
@[irreducible] def popG (xs : List α) : Option (α × List α) := (xs[xs.length - 1]?).bind fun x => some (x, xs.dropLast)
@[irreducible] noncomputable def popAtG (xs : List α) (j : Int) : Option (α × List α) := @ite _ (xs.length < 1000000 ∧ 0 ≤ j) (Classical.propDecidable _) ((xs[j.toNat]?).bind fun x => some (x, xs.eraseIdx j.toNat)) none
@[irreducible] noncomputable def repG (xs : List α) (k : Int) : Option (List α) := @ite _ (0 ≤ k ∧ k ≤ 1000000 ∧ xs.length * k.toNat ≤ 1000000) (Classical.propDecidable _) (some (List.replicate k.toNat xs).flatten) none
theorem flat_map {e : α → D} (xs : List α) : ∀ n : Nat, (List.replicate n (xs.map e)).flatten = ((List.replicate n xs).flatten).map e
  | 0 => rfl
  | n + 1 => by rw [List.replicate_succ, List.replicate_succ, List.flatten_cons, List.flatten_cons, List.map_append, flat_map xs n]
theorem repL_ok {e : α → D} {xs ys : List α} {k : Int} (h : repG xs k = some ys) : gRepL (eL e xs) (eI k) = some (eL e ys) := by
  unfold repG at h
  split at h
  · rename_i q; cases h
    show (if 0 ≤ k ∧ k ≤ 1000000 ∧ (xs.map e).length * k.toNat ≤ 1000000 then some (D.lst (List.replicate k.toNat (xs.map e)).flatten) else none) = _
    rw [List.length_map, if_pos q, flat_map]
  · cases h
theorem revL_eq {e : α → D} (xs : List α) : revOf (eL e xs) = some (xs.reverse.map e) := by simp [revOf, List.map_reverse]
theorem revT_eq {e : α → D} (xs : List α) : revOf (eT e xs) = some (xs.reverse.map e) := by simp [revOf, List.map_reverse]
theorem revR_eq {e : α → D} (xs : List α) : revOf (eR e xs) = some (xs.reverse.map e) := by simp [revOf, List.map_reverse]
@[irreducible] def dnI (i : Int) (n : Nat) : List Int := (List.range n).map fun k : Nat => i + (k : Int) * (-1)
@[irreducible] noncomputable def rng3G (i j : Int) : Option (List Int) := @ite _ (inR i = true ∧ inR j = true) (Classical.propDecidable _) (some (dnI i (i - j).toNat)) none
theorem rng3_ok {i j : Int} {xs : List Int} (h : rng3G i j = some xs) : rng3 [eI i, eI j, eI (-1)] = some (xs.map eI) := by
  unfold rng3G dnI at h
  show (if inR i = true ∧ inR j = true then some (dnD i (i - j).toNat) else none) = _
  unfold dnD
  split at h
  · rename_i q; cases h; rw [if_pos q, List.map_map]; rfl
  · cases h
abbrev eDk (e : α → D) (qs : List (Str × α)) : D := .dk (qs.map fun p => .inr p.1) (qs.map fun p => e p.2)
def getA (qs : List (Str × α)) (k : Str) (z : α) : α := ((qs.find? fun p => decide (p.1 = k)).map (·.2)).getD z
theorem get_eq {e : α → D} (qs : List (Str × α)) (k : Str) (z : α) : getD2 (qs.map fun p => .inr p.1) (qs.map fun p => e p.2) (eS k) (e z) = some (e (getA qs k z)) := by
  unfold getD2 keyD getA
  rw [Option.map_some]
  congr 1
  induction qs with
  | nil => rfl
  | cons p r ih =>
    rw [List.map_cons, List.map_cons, List.zip_cons_cons]
    unfold valQ at ih ⊢
    rw [List.find?_cons, List.find?_cons]
    by_cases h : p.1 = k
    · simp [h]
    · have h2 : ¬ ((Sum.inr p.1 : Key) = Sum.inr k) := fun z => h (by cases z; rfl)
      simp only [h, h2, decide_false]
      exact ih
theorem qs_unlast {Φ : β → Option ResS → Prop} {m : MoS} {ε : List Ent} {T : Option β} (h : QS Φ m ε T) : QS Φ (mSeq m mNil) ε T := by rw [seq_nil]; exact h
section
variable {X : Xn → β → Prop} {ε : List Ent} {T : Option β} {k : D → List Ent → Option β → Prop} {i : Nat}
theorem qc_popM {en : List D → Ent} (O : Ob en) {e : α → D} {xs : List α} {K : α × List α → Option β} (h0 : ε[i]? = some (en (xs.map e))) (hk : ∀ y : α × List α, k (e y.1) (ε.set i (en (y.2.map e))) (K y)) : QC X (mPop i) ε ((popG xs).bind K) k :=
  qc_pop h0 (O.get _) fun r hr => by
    unfold popG at hr
    rw [List.length_map]
    cases hx : xs[xs.length - 1]? with
    | none => rw [hx] at hr; cases hr
    | some x =>
      rw [hx, Option.bind_some, Option.bind_some] at hr
      refine ⟨e x, K (x, xs.dropLast), by rw [List.getElem?_map, hx]; rfl, hr, ?_⟩
      rw [O.put, ← List.map_dropLast]
      exact hk (x, xs.dropLast)
theorem erase_map {e : α → D} : ∀ (xs : List α) (j : Nat), (xs.map e).eraseIdx j = (xs.eraseIdx j).map e
  | [], _ => by simp
  | x :: r, 0 => rfl
  | x :: r, j + 1 => by rw [List.map_cons, List.eraseIdx_cons_succ, List.eraseIdx_cons_succ, List.map_cons, erase_map r j]
theorem qc_popAtM {en : List D → Ent} (O : Ob en) {e : α → D} {fk : Mo D} {ps0 : List D} (h0 : ε[i]? = some (en ps0)) (h : QC X fk ε T fun a ε1 T1 => ∃ (j : Int) (xs : List α) (K : α × List α → Option β), a = .int j ∧ ε1[i]? = some (en (xs.map e)) ∧ T1 = (popAtG xs j).bind K ∧ ∀ y : α × List α, k (e y.1) (ε1.set i (en (y.2.map e))) (K y)) : QC X (mPopAt i fk) ε T k :=
  qc_popAt h0 (O.get _) (qc_imp h fun a ε1 T1 ⟨j, xs, K, e1, e2, e3, hk⟩ => ⟨j, _, _, e1, e2, O.get _, fun r hr => by
    subst e3
    unfold popAtG at hr
    rw [List.length_map]
    by_cases hc : xs.length < 1000000 ∧ 0 ≤ j
    · rw [if_pos hc] at hr ⊢
      cases hx : xs[j.toNat]? with
      | none => rw [hx] at hr; cases hr
      | some x =>
        rw [hx, Option.bind_some, Option.bind_some] at hr
        refine ⟨e x, _, by rw [List.getElem?_map, hx]; rfl, hr, ?_⟩
        rw [O.put, erase_map]
        exact hk (x, xs.eraseIdx j.toNat)
    · rw [if_neg hc] at hr; cases hr⟩)
theorem qc_repO {f g : Mo D} {e : α → D} {kl : List D → List Ent → Option β → Prop} (h : QC X f ε T fun a ε1 T1 => QC X g ε1 T1 fun b ε2 T2 => ∃ (x : List α) (j : Int) (K : List α → Option β), a = eL e x ∧ b = .int j ∧ T2 = (repG x j).bind K ∧ ∀ z : List α, kl (z.map e) ε2 (K z)) : QC X (mRepO f g) ε T kl :=
  qc_bnd (qc_imp h fun a ε1 T1 h1 => qc_bnd (qc_imp h1 fun b ε2 T2 ⟨x, j, K, e1, e2, e3, h2⟩ => by
    subst e1 e2 e3
    refine qc_lft (qt_par (t := repG x j) (fun z : List α => z.map e) (fun z hz => ?_) h2)
    unfold repG at hz
    dsimp only
    split at hz
    · rename_i q; cases hz; rw [if_pos (by rw [List.length_map]; exact q), flat_map]
    · cases hz))
theorem qc_dsp {f : Mo (List (D × D))} (h : QC X f ε T fun qs ε1 T1 => ∃ ks, keysD qs = some ks ∧ ks.Nodup ∧ qs.length ≤ 15 ∧ k (.dk ks (qs.map (·.2))) ε1 T1) : QC X (mDsp f) ε T k :=
  qc_bnd (qc_imp h fun qs ε1 T1 ⟨ks, h1, h2, h3, h4⟩ => qc_lft (qt_tot _ (by rw [h1, Option.bind_some, if_pos ⟨h2, h3⟩]) h4))
theorem qc_pair {f g : Mo D} {h : Mo (List (D × D))} {kq : List (D × D) → List Ent → Option β → Prop} (h1 : QC X f ε T fun d ε1 T1 => QC X g ε1 T1 fun e ε2 T2 => QC X h ε2 T2 fun r ε3 T3 => kq ((d, e) :: r) ε3 T3) : QC X (bnd f fun d => bnd g fun e => bnd h fun r => pur ((d, e) :: r)) ε T kq :=
  qc_bnd (qc_imp h1 fun _ _ _ h2 => qc_bnd (qc_imp h2 fun _ _ _ h3 => qc_bnd (qc_imp h3 fun _ _ _ h4 => qc_pur h4)))
theorem qc_get2 {f g h : Mo D} (h1 : QC X f ε T fun c ε1 T1 => ∃ ks ds, c = .dk ks ds ∧ QC X g ε1 T1 fun d ε2 T2 => QC X h ε2 T2 fun z ε3 T3 => QT (getD2 ks ds d z) T3 fun r T4 => k r ε3 T4) : QC X (mGet2 f g h) ε T k :=
  qc_bnd (qc_imp h1 fun c ε1 T1 ⟨ks, ds, e, h2⟩ => by
    subst e
    exact qc_bnd (qc_imp h2 fun _ _ _ h3 => qc_bnd (qc_imp h3 fun _ _ _ h4 => qc_lft h4)))
theorem flats_ints : ∀ xs : List Int, flatToVs (xs.map eI) = some (xs.map V.int)
  | [] => rfl
  | x :: r => by rw [List.map_cons]; unfold flatToVs; rw [flats_ints r]; rfl
theorem flats_strs : ∀ xs : List Str, flatToVs (xs.map eS) = some (xs.map V.str)
  | [] => rfl
  | x :: r => by rw [List.map_cons]; unfold flatToVs; rw [flats_strs r]; rfl
theorem inI_any (x : Int) : ∀ xs : List Int, inV (.int x) (xs.map V.int) = decide (x ∈ xs)
  | [] => by simp [inV]
  | y :: r => by
    have := inI_any x r
    unfold inV at this ⊢
    rw [List.map_cons, List.any_cons, this]
    simp only [eqV, List.mem_cons]
    by_cases h : x = y
    · subst h; simp
    · have : (y == x) = false := by simpa using fun z : y = x => h z.symm
      simp [h, this]
theorem inS_any (x : Str) : ∀ xs : List Str, inV (.str x) (xs.map V.str) = decide (x ∈ xs)
  | [] => by simp [inV]
  | y :: r => by
    have := inS_any x r
    unfold inV at this ⊢
    rw [List.map_cons, List.any_cons, this]
    simp only [eqV, List.mem_cons]
    by_cases h : x = y
    · subst h; simp
    · have : (y == x) = false := by simpa using fun z : y = x => h z.symm
      simp [h, this]
theorem in_IL_eq (x : Int) (xs : List Int) : gIn false (eI x) (eL eI xs) = some (eB (decide (x ∈ xs))) := by
  simp [gIn, flatToV, seqOf, flats_ints, inI_any]
theorem in_IT_eq (x : Int) (xs : List Int) : gIn false (eI x) (eT eI xs) = some (eB (decide (x ∈ xs))) := by
  simp [gIn, flatToV, seqOf, flats_ints, inI_any]
theorem in_SL_eq (x : Str) (xs : List Str) : gIn false (eS x) (eL eS xs) = some (eB (decide (x ∈ xs))) := by
  simp [gIn, flatToV, seqOf, flats_strs, inS_any]
theorem in_ST_eq (x : Str) (xs : List Str) : gIn false (eS x) (eT eS xs) = some (eB (decide (x ∈ xs))) := by
  simp [gIn, flatToV, seqOf, flats_strs, inS_any]
theorem notin_IL_eq (x : Int) (xs : List Int) : gIn true (eI x) (eL eI xs) = some (eB (!decide (x ∈ xs))) := by
  simp [gIn, flatToV, seqOf, flats_ints, inI_any]
theorem notin_IT_eq (x : Int) (xs : List Int) : gIn true (eI x) (eT eI xs) = some (eB (!decide (x ∈ xs))) := by
  simp [gIn, flatToV, seqOf, flats_ints, inI_any]
theorem notin_SL_eq (x : Str) (xs : List Str) : gIn true (eS x) (eL eS xs) = some (eB (!decide (x ∈ xs))) := by
  simp [gIn, flatToV, seqOf, flats_strs, inS_any]
theorem notin_ST_eq (x : Str) (xs : List Str) : gIn true (eS x) (eT eS xs) = some (eB (!decide (x ∈ xs))) := by
  simp [gIn, flatToV, seqOf, flats_strs, inS_any]
end
/-! ### comprehensions whose condition is a computation -/
def fmapO (c : α → Option Bool) (f : α → Option γ) : List α → Option (List γ)
  | [] => some []
  | a :: r => (c a).bind fun b => if b = true then (f a).bind fun y => (fmapO c f r).bind fun ys => some (y :: ys) else fmapO c f r
theorem lc_goP {vs : List Nat} {t : Tg} {tt : Mo Bool} {te : Mo D} {ε0 : List Ent} {e : α → D} {c : α → Option Bool} {f : α → Option γ} {g : γ → D}
    (h : ∀ a, ∃ ps, t.parts (e a) = some ps ∧ QC (fun (_ : Xn) (_ : Bool) => False) tt (setL ε0 t.is ps) (c a) (fun b ε1 T1 => T1 = some b ∧ wipeE ε1 vs = ε0 ∧ (b = true → QC (fun (_ : Xn) (_ : γ) => False) te ε1 (f a) fun d ε' T' => ∃ y, T' = some y ∧ d = g y ∧ wipeE ε' vs = ε0))) :
    ∀ (xs : List α) (acc : List D) (ys : List γ), acc.length + xs.length ≤ 1000000 → fmapO c f xs = some ys → lcGo vs t tt te (xs.map e) acc ε0 = some (.ok (acc ++ ys.map g) ε0)
  | [], acc, ys, _, hm => by cases hm; simp [lcGo, pur]
  | a :: r, acc, ys, hl, hm => by
    rw [List.length_cons] at hl
    obtain ⟨ps, h1, h2⟩ := h a
    rw [List.map_cons]
    have eq : lcGo vs t tt te (e a :: r.map e) acc ε0 = (match tt (setL ε0 t.is ps) with
      | some (.ok true ε1) => (match te ε1 with
        | some (.ok y ε2) => if acc.length < 1000000 then lcGo vs t tt te (r.map e) (acc ++ [y]) (wipeE ε2 vs) else none
        | _ => none)
      | some (.ok false ε1) => lcGo vs t tt te (r.map e) acc (wipeE ε1 vs)
      | _ => none) := by
      rw [lcGo.eq_2]
      dsimp only
      rw [h1]
      all_goals rfl
    rw [eq]
    unfold fmapO at hm
    cases hc : c a with
    | none => rw [hc] at hm; cases hm
    | some b0 =>
      rw [hc, Option.bind_some] at hm
      rcases h2 b0 hc with ⟨b, ε1, T1, e1, e2, e3, e4, h3⟩ | ⟨_, _, _, z⟩
      · rw [e3] at e2
        cases e2
        rw [e1]
        cases b0 with
        | false =>
          rw [if_neg (by simp)] at hm
          dsimp only
          rw [e4]
          exact lc_goP h r acc ys (by omega) hm
        | true =>
          rw [if_pos rfl] at hm
          cases hf : f a with
          | none => rw [hf] at hm; cases hm
          | some y =>
            rw [hf, Option.bind_some] at hm
            cases hr : fmapO c f r with
            | none => rw [hr] at hm; cases hm
            | some zs =>
              rw [hr, Option.bind_some] at hm
              cases hm
              rcases h3 rfl y hf with ⟨d, ε', T', q1, q2, y', q3, q4, q5⟩ | ⟨_, _, _, z⟩
              · rw [q3] at q2; cases q2
                dsimp only
                rw [q1]
                dsimp only
                rw [if_pos (by omega), q5, lc_goP h r (acc ++ [d]) zs (by rw [List.length_append, List.length_singleton]; omega) hr, q4]
                simp
              · exact z.elim
      · exact z.elim
theorem qc_lcP {X : Xn → β → Prop} {ε : List Ent} {T : Option β} {kl : List D → List Ent → Option β → Prop} {vs : List Nat} {fi : Mo (List D)} {t : Tg} {tt : Mo Bool} {te : Mo D} (h : QC X fi ε T fun ds ε1 T1 => ∃ (α γ : Type) (xs : List α) (e : α → D) (c : α → Option Bool) (f : α → Option γ) (g : γ → D) (K : List γ → Option β), ds = xs.map e ∧ ε1 = ε ∧ backE ε (wipeE ε vs) vs = ε ∧ T1 = (capG xs.length).bind (fun _ => (fmapO c f xs).bind K) ∧
    (∀ a, ∃ ps, t.parts (e a) = some ps ∧ QC (fun (_ : Xn) (_ : Bool) => False) tt (setL (wipeE ε vs) t.is ps) (c a) (fun b ε1 T1 => T1 = some b ∧ wipeE ε1 vs = wipeE ε vs ∧ (b = true → QC (fun (_ : Xn) (_ : γ) => False) te ε1 (f a) fun d ε' T' => ∃ y, T' = some y ∧ d = g y ∧ wipeE ε' vs = wipeE ε vs))) ∧ ∀ ys, kl (ys.map g) ε (K ys)) : QC X (mLc vs fi t tt te) ε T kl :=
  qc_bnd (qc_imp h fun ds ε1 T1 ⟨α, γ, xs, e, c, f, g, K, e1, e2, e3, e4, h1, h2⟩ o ho => by
    subst e1 e2 e4
    unfold capG at ho
    split at ho
    · rename_i q
      rw [Option.bind_some] at ho
      cases hm : fmapO c f xs with
      | none => rw [hm] at ho; cases ho
      | some ys =>
        rw [hm, Option.bind_some] at ho
        refine .inl ⟨_, _, _, ?_, ho, h2 ys⟩
        have := lc_goP h1 xs [] ys (by simpa using q) hm
        rw [List.nil_append] at this
        dsimp only
        rw [this]
        dsimp only
        rw [e3]
    · cases ho)
/-! ### defs with several arguments that they change -/
section
variable {X : Xn → β → Prop} {ε : List Ent} {T : Option β} {k : D → List Ent → Option β → Prop} {ka : List Ag → List Ent → Option β → Prop}
theorem qc_agD {f : Mo D} {g : Mo (List Ag)} (h : QC X f ε T fun d ε1 T1 => QC X g ε1 T1 fun as ε2 T2 => ka (.inl d :: as) ε2 T2) : QC X (mAgD f g) ε T ka :=
  qc_bnd (qc_imp h fun _ _ _ h1 => qc_bnd (qc_imp h1 fun _ _ _ h2 => qc_pur h2))
theorem qc_agS {i : Nat} {e e' : Ent} {g : Mo (List Ag)} (h0 : ε[i]? = some e) (h1 : toArg e = some e') (h : QC X g ε T fun as ε2 T2 => ka (.inr i :: as) ε2 T2) : QC X (mAgS i g) ε T ka := fun o ho => by
  unfold mAgS
  rw [h0, Option.bind_some, h1]
  exact qc_bnd (qc_imp h fun _ _ _ h2 => qc_pur h2) o ho
theorem qc_fnM {n : Nat} {m : List Ent → Option (Ans × List Ent)} {f : Mo (List Ag)} (h : QC X f ε T fun as ε1 T1 => as.length = n ∧ (slotsM as).Nodup ∧ ∃ es, entsOf ε1 as = some es ∧ QT (m es) T1 fun a T2 => ∃ d es', a = (.ret d, es') ∧ k d (putM ε1 as es') T2) : QC X (mFnM n m f) ε T k :=
  qc_bnd (qc_imp h fun as ε1 T1 ⟨h1, h2, es, h3, h4⟩ o ho => by
    dsimp only
    rw [if_pos ⟨h1, h2⟩, h3]
    obtain ⟨c, T', e, h5, d, es', rfl, h6⟩ := h4 o ho
    exact .inl ⟨d, _, T', by dsimp only; rw [e]; rfl, h5, h6⟩)
end
abbrev RM (er : γ → D) (es : List Ent) (out : τ → List Ent) : γ × τ → Option ResS → Prop := fun r q => ∃ ε', (q = some (.rt (er r.1) ε')) ∧ kinds es (ε'.take es.length) = true ∧ normM es ε' = out r.2
abbrev RMN (es : List Ent) (out : τ → List Ent) : Unit × τ → Option ResS → Prop := fun r q => ∃ ε', (q = some (.rt .non ε') ∨ q = some (.nx ε')) ∧ kinds es (ε'.take es.length) = true ∧ normM es ε' = out r.2
theorem run_M {n : Nat} {g : MoS} {es ε : List Ent} {er : γ → D} {out : τ → List Ent} {t : Option (γ × τ)} {r : γ × τ} (h0 : envM n es = ε) (q : QS (RM er es out) g ε t) (h : t = some r) : runM n g es = some (.ret (er r.1), out r.2) := by
  obtain ⟨ε', e, hk, hn⟩ := q r h
  unfold runM; rw [h0, e]
  unfold outM; dsimp only
  rw [if_pos hk, hn]
theorem run_MN {n : Nat} {g : MoS} {es ε : List Ent} {out : τ → List Ent} {t : Option (Unit × τ)} {r : Unit × τ} (h0 : envM n es = ε) (q : QS (RMN es out) g ε t) (h : t = some r) : runM n g es = some (.ret .non, out r.2) := by
  obtain ⟨ε', e, hk, hn⟩ := q r h
  rcases e with e | e <;> (unfold runM; rw [h0, e]; unfold outM; dsimp only; rw [if_pos hk, hn])
end TL

set_option Elab.async false
set_option linter.all false
namespace TL
open PySem PySem.Spec L2 DL
/-! # how the plain functions are run -/
variable {α β γ δ τ σ : Type}
theorem atI_n {xs : List α} {i : Nat} (h : i < xs.length) : atI xs (i : Int) = some xs[i] := atI_nat (List.getElem?_eq_getElem h)
theorem atI_g {xs : List α} {i : Nat} {x : α} (h : xs[i]? = some x) : atI xs (i : Int) = some x := atI_nat h
theorem atI_at {xs : List α} {i : Int} (h0 : 0 ≤ i) (h : i < xs.length) : ∃ x, atI xs i = some x ∧ xs[i.toNat]? = some x ∧ x ∈ xs := by
  have hl : i.toNat < xs.length := by omega
  have := atI_n hl
  rw [show ((i.toNat : Nat) : Int) = i by omega] at this
  exact ⟨_, this, List.getElem?_eq_getElem hl, List.getElem_mem hl⟩
theorem atI_last' {xs : List α} {x : α} : atI (xs ++ [x]) (-1) = some x := by
  unfold atI ixN
  rw [if_neg (by omega), if_pos (by simp; omega), Option.bind_some]
  have : ((-1 : Int) + ((xs ++ [x]).length : Int)).toNat = xs.length := by simp; omega
  rw [this]
  simp
theorem rngI_len (lo : Int) (n : Nat) : (rngI lo n).length = n := by unfold rngI; simp
theorem rngI_zero (lo : Int) : rngI lo 0 = [] := by unfold rngI; rfl
theorem rngI_succ (lo : Int) (n : Nat) : rngI lo (n + 1) = lo :: rngI (lo + 1) n := by
  unfold rngI
  rw [List.range_succ_eq_map, List.map_cons, List.map_map]
  congr 1
  · simp
  · apply List.map_congr_left
    intro k _
    show lo + ((k + 1 : Nat) : Int) = lo + 1 + (k : Int)
    omega
theorem rngI_mem {lo x : Int} {n : Nat} : x ∈ rngI lo n ↔ lo ≤ x ∧ x < lo + n := by
  unfold rngI
  simp only [List.mem_map, List.mem_range]
  constructor
  · rintro ⟨k, h, rfl⟩; omega
  · rintro ⟨h1, h2⟩; exact ⟨(x - lo).toNat, by omega, by omega⟩
theorem dnI_zero (i : Int) : dnI i 0 = [] := by unfold dnI; rfl
theorem dnI_succ (i : Int) (n : Nat) : dnI i (n + 1) = i :: dnI (i - 1) n := by
  unfold dnI
  rw [List.range_succ_eq_map, List.map_cons, List.map_map]
  congr 1
  · simp
  · apply List.map_congr_left
    intro k _
    show i + ((k + 1 : Nat) : Int) * (-1) = i - 1 + (k : Int) * (-1)
    omega
theorem rng1_n {n : Int} (h0 : n < 2 ^ 62) (h1 : -(2 ^ 62) ≤ n) : rng1G n = some (rngI 0 n.toNat) := by
  unfold rng1G; rw [if_pos (inR_mk h1 h0)]
theorem rng1_nat {n : Nat} (h : n ≤ 1000000000) : rng1G (n : Int) = some (rngI 0 n) := by
  rw [rng1_n (by omega) (by omega), Int.toNat_natCast]
theorem rng2_n {i j : Int} (h0 : -(2 ^ 62) ≤ i) (h1 : i < 2 ^ 62) (h2 : -(2 ^ 62) ≤ j) (h3 : j < 2 ^ 62) : rng2G i j = some (rngI i (j - i).toNat) := by
  unfold rng2G; rw [if_pos ⟨inR_mk h0 h1, inR_mk h2 h3⟩]
theorem rng3_n {i j : Int} (h0 : -(2 ^ 62) ≤ i) (h1 : i < 2 ^ 62) (h2 : -(2 ^ 62) ≤ j) (h3 : j < 2 ^ 62) : rng3G i j = some (dnI i (i - j).toNat) := by
  unfold rng3G; rw [if_pos ⟨inR_mk h0 h1, inR_mk h2 h3⟩]
theorem cap_ok {n : Nat} (h : n ≤ 1000000) : capG n = some () := by unfold capG; rw [if_pos h]
theorem cap_if {n : Nat} {u : Unit} (h : capG n = some u) : (if n ≤ 1000000 then some () else none) = some u := by
  unfold capG at h
  split at h
  · rename_i q; rw [if_pos q]
  · cases h
theorem app_ok {xs : List α} {a : α} (h : xs.length < 1000000) : appG xs a = some (xs ++ [a]) := by unfold appG; rw [if_pos h]
theorem cat_ok {xs ys : List α} (h : xs.length + ys.length ≤ 1000000) : catG xs ys = some (xs ++ ys) := by unfold catG; rw [if_pos h]
theorem ext_ok {xs ys : List α} (h : xs.length + ys.length ≤ 1000000) : extG xs ys = some (xs ++ ys) := by unfold extG; rw [if_pos h]
theorem ins_ok {xs : List α} {j : Int} {a : α} (h : xs.length < 1000000) (h0 : 0 ≤ j) (h1 : j < 1000000000) : insG xs j a = some (xs.take j.toNat ++ [a] ++ xs.drop j.toNat) := by unfold insG; rw [if_pos ⟨h, h0, h1⟩]
theorem pop_ok {xs : List α} (h : 0 < xs.length) : ∃ x, popG xs = some (x, xs.dropLast) ∧ xs = xs.dropLast ++ [x] := by
  rcases List.eq_nil_or_concat xs with rfl | ⟨ys, x, rfl⟩
  · cases h
  · refine ⟨x, ?_, by simp⟩
    unfold popG
    simp
theorem popAt_ok {xs : List α} {j : Int} (h : xs.length < 1000000) (h0 : 0 ≤ j) (h1 : j < xs.length) : ∃ x, popAtG xs j = some (x, xs.eraseIdx j.toNat) ∧ xs[j.toNat]? = some x := by
  have hl : j.toNat < xs.length := by omega
  refine ⟨xs[j.toNat], ?_, List.getElem?_eq_getElem hl⟩
  unfold popAtG
  rw [if_pos ⟨h, h0⟩, List.getElem?_eq_getElem hl, Option.bind_some]
theorem put_ok {xs : List α} {j : Nat} {a : α} (h : j < xs.length) : putG xs (j : Int) a = some (xs.set j a) := by
  unfold putG ixN
  rw [if_pos (by omega), if_pos (by omega), Option.bind_some, Int.toNat_natCast]
theorem rep_ok {a : α} {n : Nat} (h : n ≤ 1000000) : repG [a] (n : Int) = some (List.replicate n a) := by
  unfold repG
  rw [if_pos (by simp; omega), Int.toNat_natCast]
  congr 1
  induction n with
  | zero => rfl
  | succ n ih => rw [List.replicate_succ, List.flatten_cons, ih (by omega), List.replicate_succ]; rfl
theorem mod_pos {a b : Int} (h : 0 < b) : modG a b = some (a % b) := by unfold modG; rw [if_pos h]
theorem mul_small {a b : Int} (h1 : a.natAbs < 2 ^ 64) (h2 : b.natAbs < 2 ^ 64) : mulG a b = some (a * b) := by
  unfold mulG
  have l : ∀ x : Int, x.natAbs < 2 ^ 64 → x.natAbs.log2 < 64 := fun x h => by
    by_cases h0 : x.natAbs = 0
    · rw [h0]; decide
    · exact (Nat.log2_lt h0).mpr h
  have := l a h1
  have := l b h2
  have e : mulOk a b = true := decide_eq_true (by omega)
  rw [if_pos e]
theorem mapO_some {f : α → Option γ} {g : α → γ} : ∀ {xs : List α}, (∀ a ∈ xs, f a = some (g a)) → mapO f xs = some (xs.map g)
  | [], _ => rfl
  | a :: r, h => by
    unfold mapO
    rw [h a (List.mem_cons_self ..), Option.bind_some, mapO_some fun b hb => h b (List.mem_cons_of_mem _ hb)]
    rfl
theorem mapO_all {f : α → Option γ} (P : α → γ → Prop) : ∀ {xs : List α}, (∀ a ∈ xs, ∃ y, f a = some y ∧ P a y) → ∃ ys, mapO f xs = some ys ∧ ys.length = xs.length ∧ ∀ (i : Nat) (a : α) (y : γ), xs[i]? = some a → ys[i]? = some y → P a y
  | [], _ => ⟨[], rfl, rfl, fun i a y h => by simp at h⟩
  | a :: r, h => by
    obtain ⟨y, h1, h2⟩ := h a (List.mem_cons_self ..)
    obtain ⟨ys, h3, h4, h5⟩ := mapO_all P (xs := r) fun b hb => h b (List.mem_cons_of_mem _ hb)
    refine ⟨y :: ys, by unfold mapO; rw [h1, Option.bind_some, h3]; rfl, by simp [h4], fun i b z q1 q2 => ?_⟩
    cases i with
    | zero => cases q1; cases q2; exact h2
    | succ i => exact h5 i b z q1 q2
theorem fmapO_some {c : α → Option Bool} {f : α → Option γ} {p : α → Bool} {g : α → γ} : ∀ {xs : List α}, (∀ a ∈ xs, c a = some (p a)) → (∀ a ∈ xs, p a = true → f a = some (g a)) → fmapO c f xs = some ((xs.filter p).map g)
  | [], _, _ => rfl
  | a :: r, h, h2 => by
    unfold fmapO
    rw [h a (List.mem_cons_self ..), Option.bind_some, fmapO_some (fun b hb => h b (List.mem_cons_of_mem _ hb)) fun b hb => h2 b (List.mem_cons_of_mem _ hb)]
    cases hp : p a with
    | true => rw [if_pos rfl, h2 a (List.mem_cons_self ..) hp, List.filter_cons_of_pos hp]; rfl
    | false => rw [if_neg (by simp), List.filter_cons_of_neg (by simp [hp])]
/-- P of what is still to be walked -/
theorem fold_list {b : α → σ → Option σ} (P : List α → σ → Prop) (step : ∀ a r s, P (a :: r) s → ∃ s', b a s = some s' ∧ P r s') : ∀ (xs : List α) (s : σ), P xs s → ∃ s', foldO b xs s = some s' ∧ P [] s'
  | [], s, h => ⟨s, rfl, h⟩
  | a :: r, s, h => by
    obtain ⟨s1, h1, h2⟩ := step a r s h
    obtain ⟨s2, h3, h4⟩ := fold_list P step r s1 h2
    exact ⟨s2, by unfold foldO; rw [h1]; exact h3, h4⟩
theorem fold_rng {b : Int → σ → Option σ} {n : Nat} {lo : Int} (P : Nat → σ → Prop) (step : ∀ (k : Nat) (s : σ), k < n → P k s → ∃ s', b (lo + k) s = some s' ∧ P (k + 1) s') {s : σ} (h : P 0 s) : ∃ s', foldO b (rngI lo n) s = some s' ∧ P n s' := by
  have go : ∀ (m k : Nat) (s : σ), k + m = n → P k s → ∃ s', foldO b (rngI (lo + k) m) s = some s' ∧ P n s' := fun m => by
    induction m with
    | zero => intro k s e h; rw [rngI_zero]; exact ⟨s, rfl, by rw [← e]; exact h⟩
    | succ m ih =>
      intro k s e h
      rw [rngI_succ]
      obtain ⟨s1, h1, h2⟩ := step k s (by omega) h
      obtain ⟨s2, h3, h4⟩ := ih (k + 1) s1 (by omega) h2
      refine ⟨s2, ?_, h4⟩
      unfold foldO
      rw [h1, Option.bind_some]
      rw [show lo + ((k + 1 : Nat) : Int) = lo + (k : Int) + 1 by omega] at h3
      exact h3
  have := go n 0 s (by omega) h
  rwa [show lo + ((0 : Nat) : Int) = lo by omega] at this
/-- downwards: P k when k items are done -/
theorem fold_dn {b : Int → σ → Option σ} {n : Nat} {i : Int} (P : Nat → σ → Prop) (step : ∀ (k : Nat) (s : σ), k < n → P k s → ∃ s', b (i - k) s = some s' ∧ P (k + 1) s') {s : σ} (h : P 0 s) : ∃ s', foldO b (dnI i n) s = some s' ∧ P n s' := by
  have go : ∀ (m k : Nat) (s : σ), k + m = n → P k s → ∃ s', foldO b (dnI (i - k) m) s = some s' ∧ P n s' := fun m => by
    induction m with
    | zero => intro k s e h; rw [dnI_zero]; exact ⟨s, rfl, by rw [← e]; exact h⟩
    | succ m ih =>
      intro k s e h
      rw [dnI_succ]
      obtain ⟨s1, h1, h2⟩ := step k s (by omega) h
      obtain ⟨s2, h3, h4⟩ := ih (k + 1) s1 (by omega) h2
      refine ⟨s2, ?_, h4⟩
      unfold foldO
      rw [h1, Option.bind_some]
      rw [show i - ((k + 1 : Nat) : Int) = i - (k : Int) - 1 by omega] at h3
      exact h3
  have := go n 0 s (by omega) h
  rwa [show i - ((0 : Nat) : Int) = i by omega] at this
/-- a loop with ways out: what it comes to is r -/
theorem forS_rng {b : Int → σ → Option (LS σ β)} {K : σ → Option β} {n : Nat} {lo : Int} {r : Option β} (P : Nat → σ → Prop)
    (step : ∀ (k : Nat) (s : σ), k < n → P k s → (∃ s', b (lo + k) s = some (.go s') ∧ P (k + 1) s') ∨ (∃ s', b (lo + k) s = some (.brk s') ∧ K s' = r) ∨ (∃ o, b (lo + k) s = some (.out o) ∧ some o = r))
    (done : ∀ s, P n s → K s = r) {s : σ} (h : P 0 s) : forS b (rngI lo n) s K = r := by
  have go : ∀ (m k : Nat) (s : σ), k + m = n → P k s → forS b (rngI (lo + k) m) s K = r := fun m => by
    induction m with
    | zero => intro k s e h; rw [rngI_zero]; exact done s (by rw [← e]; exact h)
    | succ m ih =>
      intro k s e h
      rw [rngI_succ]
      unfold forS
      rcases step k s (by omega) h with ⟨s1, h1, h2⟩ | ⟨s1, h1, h2⟩ | ⟨o, h1, h2⟩
      · rw [h1, Option.bind_some]
        have := ih (k + 1) s1 (by omega) h2
        rw [show lo + ((k + 1 : Nat) : Int) = lo + (k : Int) + 1 by omega] at this
        exact this
      · rw [h1, Option.bind_some]; exact h2
      · rw [h1, Option.bind_some]; exact h2
  have := go n 0 s (by omega) h
  rwa [show lo + ((0 : Nat) : Int) = lo by omega] at this
theorem forS_list {b : α → σ → Option (LS σ β)} {K : σ → Option β} {r : Option β} (P : List α → σ → Prop)
    (step : ∀ a t s, P (a :: t) s → (∃ s', b a s = some (.go s') ∧ P t s') ∨ (∃ s', b a s = some (.brk s') ∧ K s' = r) ∨ (∃ o, b a s = some (.out o) ∧ some o = r))
    (done : ∀ s, P [] s → K s = r) : ∀ (xs : List α) (s : σ), P xs s → forS b xs s K = r
  | [], s, h => done s h
  | a :: t, s, h => by
    unfold forS
    rcases step a t s h with ⟨s1, h1, h2⟩ | ⟨s1, h1, h2⟩ | ⟨o, h1, h2⟩
    · rw [h1, Option.bind_some]; exact forS_list P step done t s1 h2
    · rw [h1, Option.bind_some]; exact h2
    · rw [h1, Option.bind_some]; exact h2
/-- a while by a measure -/
theorem whS_run {c : σ → Option Bool} {b : σ → Option (LS σ β)} {K : σ → Option β} {r : Option β} (P : σ → Prop) (μ : σ → Nat)
    (step : ∀ s, P s → (c s = some false ∧ K s = r) ∨ (c s = some true ∧ ((∃ s', b s = some (.go s') ∧ P s' ∧ μ s' < μ s) ∨ (∃ s', b s = some (.brk s') ∧ K s' = r) ∨ (∃ o, b s = some (.out o) ∧ some o = r)))) :
    ∀ (n : Nat) (s : σ), μ s < n → P s → whS c b n s K = r
  | 0, _, h, _ => by omega
  | n + 1, s, h, hp => by
    unfold whS
    rcases step s hp with ⟨h1, h2⟩ | ⟨h1, h2⟩
    · rw [h1, Option.bind_some, if_neg (by simp)]; exact h2
    · rw [h1, Option.bind_some, if_pos rfl]
      rcases h2 with ⟨s1, h2, h3, h4⟩ | ⟨s1, h2, h3⟩ | ⟨o, h2, h3⟩
      · rw [h2, Option.bind_some]; exact whS_run P μ step n s1 (by omega) h3
      · rw [h2, Option.bind_some]; exact h3
      · rw [h2, Option.bind_some]; exact h3
/-- the greatest, at least 0 -/
def mx : List Int → Int
  | [] => 0
  | a :: r => max a (mx r)
theorem mx_nn : ∀ l, 0 ≤ mx l
  | [] => Int.le_refl 0
  | a :: r => by unfold mx; have := mx_nn r; omega
theorem maxI_mx : ∀ l : List Int, maxI (0 :: l) = mx l
  | [] => rfl
  | [a] => by simp [maxI, mx]; split <;> omega
  | a :: b :: r => by
    have ih := maxI_mx (b :: r)
    have e1 : maxI (0 :: a :: b :: r) = if maxI (a :: b :: r) > 0 then maxI (a :: b :: r) else 0 := rfl
    have e2 : maxI (a :: b :: r) = if maxI (b :: r) > a then maxI (b :: r) else a := rfl
    have e3 : maxI (0 :: b :: r) = if maxI (b :: r) > 0 then maxI (b :: r) else 0 := rfl
    rw [e3] at ih
    rw [e1, e2, mx, ← ih]
    split <;> split <;> (try split) <;> omega
theorem max_mx (l : List Int) : maxG (0 :: l) = some (mx l) := by
  unfold maxG
  rw [if_pos (by simp), maxI_mx]
end TL

set_option Elab.async false
set_option linter.all false
namespace TL
open PySem PySem.Spec L2 DL
/-! # exceptions, comprehensions that change lists -/
variable {α β γ δ τ σ κ : Type}
/-- what it gives where it doesn't raise -/
def An.val : An α → Option α
  | .ret r => some r
  | .exc _ => none
/-- a call that may raise; inj: the exception as this block's outcome -/
def bindX (t : Option (An κ)) (inj : Xn → β) (K : κ → Option β) : Option β := match t with
  | none => none
  | some (.ret r) => K r
  | some (.exc x) => some (inj x)
theorem qc_fnX2 {X : Xn → β → Prop} {ε : List Ent} {T : Option β} {k : D → List Ent → Option β → Prop} {n : Nat} {m : List D → Option Ans} {f : Mo (List D)}
    (h : QC X f ε T fun ds ε1 T1 => ds.length = n ∧ ∃ (κ : Type) (t : Option (An κ)) (e : κ → D) (inj : Xn → β) (K : κ → Option β), T1 = bindX t inj K ∧ (∀ a, t = some a → m ds = some (a.enc e)) ∧ (∀ x, X x (inj x)) ∧ ∀ r, k (e r) ε1 (K r)) : QC X (mFn n m f) ε T k :=
  qc_bnd (qc_imp h fun ds ε1 T1 h1 o ho => by
    obtain ⟨hl, κ, t, e, inj, K, rfl, h2, hX, h3⟩ := h1
    rw [if_pos hl]
    unfold bindX at ho
    cases ht : t with
    | none => rw [ht] at ho; cases ho
    | some a =>
      have hm := h2 a ht
      rw [ht] at ho
      cases a with
      | ret r => exact .inl ⟨e r, ε1, K r, by unfold ansM; rw [hm]; rfl, ho, h3 r⟩
      | exc x =>
        cases ho
        exact .inr ⟨x, ε1, by unfold ansM; rw [hm]; rfl, hX x⟩)
theorem val_ret {t : Option (An κ)} {r : κ} (h : t.bind An.val = some r) : t = some (.ret r) := by
  cases t with
  | none => cases h
  | some a =>
    cases a with
    | ret r' => cases h; rfl
    | exc x => cases h
section
variable {Φ : β → Option ResS → Prop} {ε : List Ent} {T : Option β}
theorem qs_raise1 {cls : String} {f : Str} {g : Mo (List D)} (h : QC (XP Φ) g ε T fun ds ε1 T1 => ∃ d, ds = [d] ∧ ∀ o, T1 = some o → Φ o (some (.ex ⟨cls, [(f, d)]⟩ ε1))) : QS Φ (mRaise1 cls f g) ε T :=
  qs_last (qs_then (qc_imp h fun ds ε1 T1 ⟨d, e, h1⟩ o ho => by subst e; exact h1 o ho))
theorem qs_raise0 {cls : String} (h : ∀ o, T = some o → Φ o (some (.ex ⟨cls, []⟩ ε))) : QS Φ (mRaise0 cls) ε T := h
end
/-- what a def that may raise and gives None answers -/
abbrev RXN : An Unit → Option ResS → Prop := fun r q => match r with
  | .ret _ => (∃ ε, q = some (.rt .non ε)) ∨ (∃ ε, q = some (.nx ε))
  | .exc x => ∃ ε, q = some (.ex x ε)
theorem run_XN {n : Nat} {g : MoS} {ds : List D} {ε : List Ent} {t : Option (An Unit)} {r : An Unit} (h0 : env0 n ds = ε) (q : QS RXN g ε t) (h : t = some r) : runP n g ds = some (r.enc eN) := by
  have := q r h
  unfold runP
  rw [h0]
  cases r with
  | ret u =>
    rcases this with ⟨ε', e⟩ | ⟨ε', e⟩
    · rw [e]; rfl
    · rw [e]; rfl
  | exc x => obtain ⟨ε', e⟩ := this; rw [e]; rfl
theorem rngFar_eq (i j : Int) : rngFar [eI i, eI j] = some ((rngI i (j - i).toNat).map eI) := by
  show some (rangeD i (j - i).toNat) = _
  rw [rangeD_map]
/-! ## comprehensions that change what stands in the frame -/
def mapS (f : α → σ → Option (γ × σ)) : List α → σ → Option (List γ × σ)
  | [], s => some ([], s)
  | a :: r, s => (f a s).bind fun p => (mapS f r p.2).bind fun q => some (p.1 :: q.1, q.2)
theorem lcE_go {vs : List Nat} {t : Tg} {te : Mo D} {e : α → D} {F : σ → List Ent} {f : α → σ → Option (γ × σ)} {g : γ → D}
    (h : ∀ a s, ∃ ps, t.parts (e a) = some ps ∧ QC (fun (_ : Xn) (_ : γ × σ) => False) te (setL (F s) t.is ps) (f a s) fun d ε' T' => ∃ z, T' = some z ∧ d = g z.1 ∧ wipeE ε' vs = F z.2) :
    ∀ (xs : List α) (acc : List D) (s : σ) (zs : List γ × σ), acc.length + xs.length ≤ 1000000 → mapS f xs s = some zs → lcGo vs t (pur true) te (xs.map e) acc (F s) = some (.ok (acc ++ zs.1.map g) (F zs.2))
  | [], acc, s, zs, _, hm => by
    cases hm
    show pur acc (F s) = _
    simp [pur]
  | a :: r, acc, s, zs, hl, hm => by
    rw [List.length_cons] at hl
    unfold mapS at hm
    cases hf : f a s with
    | none => rw [hf] at hm; cases hm
    | some p =>
      rw [hf, Option.bind_some] at hm
      cases hr : mapS f r p.2 with
      | none => rw [hr] at hm; cases hm
      | some q =>
        rw [hr, Option.bind_some] at hm
        cases hm
        obtain ⟨ps, h1, h2⟩ := h a s
        rcases h2 p hf with ⟨d, ε', T', q1, q2, z, q3, q4, q5⟩ | ⟨_, _, _, z⟩
        · rw [q3] at q2
          cases q2
          show lcGo vs t (pur true) te (e a :: r.map e) acc (F s) = _
          unfold lcGo
          rw [h1]
          dsimp only [pur]
          rw [q1]
          dsimp only
          rw [if_pos (by omega), q5]
          have := lcE_go h r (acc ++ [d]) p.2 q (by rw [List.length_append, List.length_singleton]; omega) hr
          first
            | rw [this, q4]; simp
            | (refine Eq.trans this ?_; rw [q4]; simp)
        · exact z.elim
theorem qc_lcE {X : Xn → β → Prop} {ε : List Ent} {T : Option β} {kl : List D → List Ent → Option β → Prop} {vs : List Nat} {fi : Mo (List D)} {t : Tg} {te : Mo D} (h : QC X fi ε T fun ds ε1 T1 => ∃ (α γ σ : Type) (xs : List α) (e : α → D) (s0 : σ) (F : σ → List Ent) (f : α → σ → Option (γ × σ)) (g : γ → D) (K : List γ × σ → Option β), ds = xs.map e ∧ wipeE ε1 vs = F s0 ∧ T1 = (capG xs.length).bind (fun _ => (mapS f xs s0).bind K) ∧
    (∀ a s, ∃ ps, t.parts (e a) = some ps ∧ QC (fun (_ : Xn) (_ : γ × σ) => False) te (setL (F s) t.is ps) (f a s) fun d ε' T' => ∃ z, T' = some z ∧ d = g z.1 ∧ wipeE ε' vs = F z.2) ∧ ∀ z, kl (z.1.map g) (backE ε1 (F z.2) vs) (K z)) : QC X (mLc vs fi t (pur true) te) ε T kl :=
  qc_bnd (qc_imp h fun ds ε1 T1 ⟨α, γ, σ, xs, e, s0, F, f, g, K, e1, e2, e4, h1, h2⟩ o ho => by
    subst e1 e4
    unfold capG at ho
    split at ho
    · rename_i q
      rw [Option.bind_some] at ho
      cases hm : mapS f xs s0 with
      | none => rw [hm] at ho; cases ho
      | some zs =>
        rw [hm, Option.bind_some] at ho
        refine .inl ⟨_, _, _, ?_, ho, h2 zs⟩
        have := lcE_go h1 xs [] s0 zs (by simpa using q) hm
        rw [List.nil_append] at this
        dsimp only
        rw [e2, this]
    · cases ho)
end TL

set_option Elab.async false
set_option linter.all false
namespace TL
open PySem PySem.Spec L2 DL
/-! # dicts whose keys are pairs of whole numbers -/
variable {α β γ δ τ σ κ : Type}
def kT (k : Int × Int) : List Key := [.inl k.1, .inl k.2]
theorem kT_inj {a b : Int × Int} : kT a = kT b ↔ a = b := by
  constructor
  · intro h
    unfold kT at h
    injection h with h1 h2
    injection h2 with h2 _
    injection h1 with h1
    injection h2 with h2
    exact Prod.ext h1 h2
  · rintro rfl; rfl
def eQ (e : α → D) (qs : List ((Int × Int) × α)) : List (List Key × D) := qs.map fun p => (kT p.1, e p.2)
abbrev eDt (e : α → D) (qs : List ((Int × Int) × α)) : D := .dt ((eQ e qs).map (·.1)) ((eQ e qs).map (·.2))
def lookG (qs : List ((Int × Int) × α)) (k : Int × Int) : Option α := (qs.find? fun p => decide (p.1 = k)).map (·.2)
def putA (qs : List ((Int × Int) × α)) (k : Int × Int) (v : α) : List ((Int × Int) × α) :=
  if (qs.any fun p => decide (p.1 = k)) = true then qs.map (fun p => if p.1 = k then (p.1, v) else p) else qs ++ [(k, v)]
@[irreducible] noncomputable def putDG (qs : List ((Int × Int) × α)) (k : Int × Int) (v : α) : Option (List ((Int × Int) × α)) := @ite _ (qs.length < 1000000) (Classical.propDecidable _) (some (putA qs k v)) none
theorem putD_ok {qs : List ((Int × Int) × α)} {k : Int × Int} {v : α} (h : qs.length < 1000000) : putDG qs k v = some (putA qs k v) := by unfold putDG; rw [if_pos h]
theorem valQ_eQ {e : α → D} : ∀ (qs : List ((Int × Int) × α)) (k : Int × Int), valQ (eQ e qs) (kT k) = (lookG qs k).map e
  | [], _ => rfl
  | p :: r, k => by
    have ih := valQ_eQ (e := e) r k
    unfold valQ lookG eQ at *
    rw [List.map_cons, List.find?_cons, List.find?_cons]
    by_cases h : p.1 = k
    · simp [h]
    · simp only [kT_inj, h, decide_false]
      exact ih
theorem any_eQ {e : α → D} (k : Int × Int) : ∀ (qs : List ((Int × Int) × α)), ((eQ e qs).any fun kv => decide (kv.1 = kT k)) = (qs.any fun p => decide (p.1 = k))
  | [] => rfl
  | p :: r => by
    have ih := any_eQ (e := e) k r
    unfold eQ at *
    rw [List.map_cons, List.any_cons, List.any_cons, ih]
    simp only [kT_inj]
theorem putQ_eQ {e : α → D} (qs : List ((Int × Int) × α)) (k : Int × Int) (v : α) : putQ (eQ e qs) (kT k) (e v) = eQ e (putA qs k v) := by
  unfold putQ putA
  rw [any_eQ]
  split
  · unfold eQ
    rw [List.map_map, List.map_map]
    apply List.map_congr_left
    intro p _
    by_cases h : p.1 = k
    · simp [kT_inj, h]
    · simp [kT_inj, h]
  · unfold eQ
    rw [List.map_append]
    rfl
theorem dtAt_frz {e : α → D} (qs : List ((Int × Int) × α)) : dtAt (some (.dat (eDt e qs))) = some (eQ e qs) := by
  show some (((eQ e qs).map (·.1)).zip ((eQ e qs).map (·.2))) = _
  congr 1
  generalize eQ e qs = l
  induction l with
  | nil => rfl
  | cons p r ih => rw [List.map_cons, List.map_cons, List.zip_cons_cons, ih]
theorem dtAt_own {e : α → D} (qs : List ((Int × Int) × α)) : dtAt (some (.od (.dt (eQ e qs)))) = some (eQ e qs) := rfl
/-- == of data -/
def eqDG (a b : D) : Option Bool := match gEq a b with
  | some (.bl c) => some c
  | _ => none
theorem eqDG_ok {a b : D} {c : Bool} (h : eqDG a b = some c) : gEq a b = some (eB c) := by
  unfold eqDG at h
  split at h
  · rename_i c' q
    cases h
    exact q
  · cases h
/-- a place: a pair, and what stands behind it -/
abbrev Pl : Type := Int × Int × List D
abbrev ePl (p : Pl) : D := .tup (.int p.1 :: .int p.2.1 :: p.2.2)
theorem pl0 (p : Pl) : gIx (ePl p) (.int 0) = some (eI p.1) := atI_nat (xs := D.int p.1 :: D.int p.2.1 :: p.2.2) (j := 0) rfl
theorem pl1 (p : Pl) : gIx (ePl p) (.int 1) = some (eI p.2.1) := atI_nat (xs := D.int p.1 :: D.int p.2.1 :: p.2.2) (j := 1) rfl
def plG (a : Int × Int) (b : List D) : Option Pl := if b.length ≤ 1000 then some (a.1, a.2, b) else none
theorem plG_ok {a : Int × Int} {b : List D} {c : Pl} (h : plG a b = some c) : gCatT (e2 eI eI a) (eT eD b) = some (ePl c) := by
  unfold plG at h
  split at h
  · rename_i q
    cases h
    have e : eT eD b = .tup b := by
      show D.tup (b.map fun d => d) = .tup b
      rw [List.map_id']
    rw [e]
    unfold gCatT
    first
      | rfl
      | (rw [if_pos (by simp; omega)]; rfl)
      | (simp; omega)
  · cases h
theorem qt_opt {e : α → D} {a : Option α} {d : D} {K : α → Option β} {k : D → Option β → Prop} (h : ∀ x, QT (gIx (e x) d) (K x) k) : QT (gIx (eO e a) d) (a.bind K) k := by
  cases a with
  | none => intro r hr; cases hr
  | some x => exact h x
section
variable {X : Xn → β → Prop} {Φ : β → Option ResS → Prop} {ε : List Ent} {T : Option β} {i : Nat} {m2 : MoS} {k : D → List Ent → Option β → Prop}
theorem qc_dgetT {g : Mo (List D)} {q0 : List (List Key × D)} (h0 : dtAt ε[i]? = some q0) (h : QC X g ε T fun ds ε1 T1 => ∃ (α : Type) (x y : Int) (qs : List ((Int × Int) × α)) (e : α → D), ds = [.int x, .int y] ∧ dtAt ε1[i]? = some (eQ e qs) ∧ QT ((lookG qs (x, y)).map e) T1 fun d T2 => k d ε1 T2) : QC X (mDGetT i g) ε T k := fun o ho => by
  unfold mDGetT
  rw [h0]
  refine qc_bnd (X := X) (k := k) (qc_imp h fun ds ε1 T1 ⟨α, x, y, qs, e, e1, e2, h1⟩ o ho => ?_) o ho
  subst e1
  obtain ⟨d, T', h2, h3, h4⟩ := h1 o ho
  refine .inl ⟨d, ε1, T', ?_, h3, h4⟩
  have ek : tkeys [D.int x, D.int y] = some (kT (x, y)) := rfl
  rw [e2, ek]
  dsimp only
  rw [valQ_eQ, h2]
  rfl
theorem qs_dputT {fv : Mo D} {g : Mo (List D)} (h : QC (XP Φ) fv ε T fun d ε1 T1 => (∃ q0, dtAt ε1[i]? = some q0) ∧ QC (XP Φ) g ε1 T1 fun ds ε2 T2 => ∃ (α : Type) (x y : Int) (qs : List ((Int × Int) × α)) (e : α → D) (v : α) (K : List ((Int × Int) × α) → Option β), ds = [.int x, .int y] ∧ ε2[i]? = some (.od (.dt (eQ e qs))) ∧ d = e v ∧ T2 = (putDG qs (x, y) v).bind K ∧ ∀ qs', QS Φ m2 (ε2.set i (.od (.dt (eQ e qs')))) (K qs')) : QS Φ (mSeq (mDPutT i fv g) m2) ε T :=
  qs_then (qc_imp h fun d ε1 T1 ⟨⟨q0, h0⟩, h1⟩ => by
    refine qs_thenE (f := g) (k := fun ds ε => match ε[i]?, tkeys ds with
        | some (.od (.dt qs)), some k => if qs.length < 1000000 ∧ ds.length ≤ 1000 then some (.nx (ε.set i (.od (.dt (putQ qs k d))))) else none
        | _, _ => none) (by rw [h0]; all_goals rfl) (qc_imp h1 fun ds ε2 T2 ⟨α, x, y, qs, e, v, K, e1, e2, e3, e4, h2⟩ o ho => ?_)
    subst e1 e3 e4
    unfold putDG at ho
    split at ho
    · rename_i hl
      rw [Option.bind_some] at ho
      have : mSeq (fun ε => match ε[i]?, tkeys [D.int x, D.int y] with
        | some (.od (.dt qs)), some k => if qs.length < 1000000 ∧ [D.int x, D.int y].length ≤ 1000 then some (.nx (ε.set i (.od (.dt (putQ qs k (e v)))))) else none
        | _, _ => none) m2 ε2 = m2 (ε2.set i (.od (.dt (eQ e (putA qs (x, y) v))))) := by
        have ek : tkeys [D.int x, D.int y] = some (kT (x, y)) := rfl
        unfold mSeq
        dsimp only
        rw [e2, ek]
        dsimp only
        rw [if_pos ⟨by unfold eQ; rw [List.length_map]; exact hl, Nat.le_of_ble_eq_true rfl⟩, putQ_eQ]
      rw [this]
      exact h2 _ o ho
    · cases ho)
theorem qc_lenD {α : Type} {qs : List ((Int × Int) × α)} {e : α → D} (h0 : dtAt ε[i]? = some (eQ e qs)) (h : k (.int (qs.length : Int)) ε T) : QC X (mLenD i) ε T k := fun o ho => by
  refine .inl ⟨_, ε, T, ?_, ho, h⟩
  unfold mLenD
  rw [h0]
  dsimp only
  unfold eQ
  rw [List.length_map]
theorem qs_newT (h : QS Φ m2 (ε.set i (.od (.dt []))) T) : QS Φ (mSeq (mNewB i (.dt [])) m2) ε T := h
end
end TL

set_option Elab.async false
set_option linter.all false
set_option maxRecDepth 100000
set_option maxHeartbeats 4000000
namespace LW
open PySem PySem.Spec L2 DL TL
def topS (i : Nat) : Stmt := PySem.Challenge.pw_easelwork_k07_rects_and_blocks.main.body.getD i (.Pass ⟨0, 0, 0, 0⟩)
abbrev s_overlap : Stmt := topS 1
abbrev N_overlap : List Str := ["a", "b", "x0", "y0", "x1", "y1"]
theorem sc_overlap : FnScope N_overlap ["a", "b"] (defScope s_overlap) := ⟨rfl, rfl, rfl, by decide +kernel, rfl, by decide +kernel, by decide +kernel⟩
abbrev s_widened : Stmt := topS 2
abbrev N_widened : List Str := ["rect", "left", "up", "right", "down", "x0", "y0", "x1", "y1"]
theorem sc_widened : FnScope N_widened ["rect", "left", "up", "right", "down"] (defScope s_widened) := ⟨rfl, rfl, rfl, by decide +kernel, rfl, by decide +kernel, by decide +kernel⟩
abbrev s_around : Stmt := topS 3
abbrev N_around : List Str := ["rects", "rect"]
theorem sc_around : FnScope N_around ["rects"] (defScope s_around) := ⟨rfl, rfl, rfl, by decide +kernel, rfl, by decide +kernel, by decide +kernel⟩
abbrev s_around_places : Stmt := topS 4
abbrev N_around_places : List Str := ["places", "across", "down", "place"]
theorem sc_around_places : FnScope N_around_places ["places"] (defScope s_around_places) := ⟨rfl, rfl, rfl, by decide +kernel, rfl, by decide +kernel, by decide +kernel⟩
abbrev s_holds : Stmt := topS 5
abbrev N_holds : List Str := ["rect", "x", "y", "x0", "y0", "x1", "y1"]
theorem sc_holds : FnScope N_holds ["rect", "x", "y"] (defScope s_holds) := ⟨rfl, rfl, rfl, by decide +kernel, rfl, by decide +kernel, by decide +kernel⟩
abbrev s_cut : Stmt := topS 6
abbrev N_cut : List Str := ["block", "rect", "part", "x0", "y0", "x1", "y1", "left", "up", "row"]
theorem sc_cut : FnScope N_cut ["block", "rect", "part"] (defScope s_cut) := ⟨rfl, rfl, rfl, by decide +kernel, rfl, by decide +kernel, by decide +kernel⟩
abbrev s_law_cell : Stmt := topS 8
abbrev N_law_cell : List Str := ["script", "k"]
theorem sc_law_cell : FnScope N_law_cell ["script", "k"] (defScope s_law_cell) := ⟨rfl, rfl, rfl, by decide +kernel, rfl, by decide +kernel, by decide +kernel⟩
abbrev s_law_draws : Stmt := topS 9
abbrev N_law_draws : List Str := ["script", "at", "count", "cell", "rows", "rest", "k", "seed"]
theorem sc_law_draws : FnScope N_law_draws ["script", "at", "count"] (defScope s_law_draws) := ⟨rfl, rfl, rfl, by decide +kernel, rfl, by decide +kernel, by decide +kernel⟩
abbrev s_law_rects : Stmt := topS 11
abbrev N_law_rects : List Str := ["numbers", "many", "rows", "k", "x", "y"]
theorem sc_law_rects : FnScope N_law_rects ["numbers", "many"] (defScope s_law_rects) := ⟨rfl, rfl, rfl, by decide +kernel, rfl, by decide +kernel, by decide +kernel⟩
abbrev s_law_whole : Stmt := topS 12
abbrev N_law_whole : List Str := ["got"]
theorem sc_law_whole : FnScope N_law_whole ["got"] (defScope s_law_whole) := ⟨rfl, rfl, rfl, by decide +kernel, rfl, by decide +kernel, by decide +kernel⟩
abbrev s_law_comb : Stmt := topS 14
abbrev N_law_comb : List Str := ["numbers", "wide", "high", "rows", "k", "across", "down", "x", "y"]
theorem sc_law_comb : FnScope N_law_comb ["numbers"] (defScope s_law_comb) := ⟨rfl, rfl, rfl, by decide +kernel, rfl, by decide +kernel, by decide +kernel⟩
abbrev s_law_second : Stmt := topS 15
abbrev N_law_second : List Str := ["a", "b", "way", "wide", "high"]
theorem sc_law_second : FnScope N_law_second ["a", "b", "way"] (defScope s_law_second) := ⟨rfl, rfl, rfl, by decide +kernel, rfl, by decide +kernel, by decide +kernel⟩
abbrev s_law_common : Stmt := topS 16
abbrev N_law_common : List Str := ["a", "b", "xs", "ys"]
theorem sc_law_common : FnScope N_law_common ["a", "b"] (defScope s_law_common) := ⟨rfl, rfl, rfl, by decide +kernel, rfl, by decide +kernel, by decide +kernel⟩
abbrev s_law_hull : Stmt := topS 17
abbrev N_law_hull : List Str := ["rows", "hull", "rect", "x0", "y0", "x1"]
theorem sc_law_hull : FnScope N_law_hull ["rows"] (defScope s_law_hull) := ⟨rfl, rfl, rfl, by decide +kernel, rfl, by decide +kernel, by decide +kernel⟩
abbrev s_law_things : Stmt := topS 21
abbrev N_law_things : List Str := ["mixed", "rect", "things", "y", "x", "k"]
theorem sc_law_things : FnScope N_law_things ["mixed", "rect"] (defScope s_law_things) := ⟨rfl, rfl, rfl, by decide +kernel, rfl, by decide +kernel, by decide +kernel⟩
abbrev s_law_block : Stmt := topS 22
abbrev N_law_block : List Str := ["things", "rect", "rows", "y", "x"]
theorem sc_law_block : FnScope N_law_block ["things", "rect"] (defScope s_law_block) := ⟨rfl, rfl, rfl, by decide +kernel, rfl, by decide +kernel, by decide +kernel⟩
abbrev s_law_part : Stmt := topS 23
abbrev N_law_part : List Str := ["rect", "numbers", "x", "y"]
theorem sc_law_part : FnScope N_law_part ["rect", "numbers"] (defScope s_law_part) := ⟨rfl, rfl, rfl, by decide +kernel, rfl, by decide +kernel, by decide +kernel⟩
abbrev s_law_numbers : Stmt := topS 10
abbrev N_law_numbers : List Str := ["script", "at", "many", "seed", "small", "mixed", "rows", "k", "number"]
theorem sc_law_numbers : FnScope N_law_numbers ["script", "at", "many", "seed", "small"] (defScope s_law_numbers) := ⟨rfl, rfl, rfl, by decide +kernel, rfl, by decide +kernel, by decide +kernel⟩
abbrev s_law_same : Stmt := topS 13
abbrev N_law_same : List Str := ["got", "due", "k"]
theorem sc_law_same : FnScope N_law_same ["got", "due"] (defScope s_law_same) := ⟨rfl, rfl, rfl, by decide +kernel, rfl, by decide +kernel, by decide +kernel⟩
abbrev s_law_pairs : Stmt := topS 18
abbrev N_law_pairs : List Str := ["a", "b", "four", "due", "wider"]
theorem sc_law_pairs : FnScope N_law_pairs ["a", "b", "four"] (defScope s_law_pairs) := ⟨rfl, rfl, rfl, by decide +kernel, rfl, by decide +kernel, by decide +kernel⟩
abbrev s_law_arounds : Stmt := topS 19
abbrev N_law_arounds : List Str := ["rects", "places", "passed", "items", "alone", "place"]
theorem sc_law_arounds : FnScope N_law_arounds ["rects", "places"] (defScope s_law_arounds) := ⟨rfl, rfl, rfl, by decide +kernel, rfl, by decide +kernel, by decide +kernel⟩
abbrev s_law_inside : Stmt := topS 20
abbrev N_law_inside : List Str := ["a", "x", "y", "due"]
theorem sc_law_inside : FnScope N_law_inside ["a", "x", "y"] (defScope s_law_inside) := ⟨rfl, rfl, rfl, by decide +kernel, rfl, by decide +kernel, by decide +kernel⟩
abbrev s_law_cuts : Stmt := topS 24
abbrev N_law_cuts : List Str := ["things", "rect", "part", "inner", "block", "piece", "due"]
theorem sc_law_cuts : FnScope N_law_cuts ["things", "rect", "part", "inner"] (defScope s_law_cuts) := ⟨rfl, rfl, rfl, by decide +kernel, rfl, by decide +kernel, by decide +kernel⟩
abbrev s_law : Stmt := topS 25
abbrev N_law : List Str := ["script", "small", "pair", "a", "b", "numbers", "four", "row", "rects", "corners", "places", "sides", "most", "rect", "part", "things", "number", "k", "one"]
theorem sc_law : FnScope N_law ["script"] (defScope s_law) := ⟨rfl, rfl, rfl, by decide +kernel, rfl, by decide +kernel, by decide +kernel⟩
structure Txt (P : Program) (w : World) (K : PySem.W.Frag) (mg : Str → Option Value) where
  f_overlap : Addr
  d_overlap : FuncData
  F_overlap : Fun K "overlap" "overlap" s_overlap f_overlap d_overlap
  m_overlap : mg "overlap" = some (.ref f_overlap)
  b_overlap : Binds K d_overlap ["a", "b"] []
  f_widened : Addr
  d_widened : FuncData
  F_widened : Fun K "widened" "widened" s_widened f_widened d_widened
  m_widened : mg "widened" = some (.ref f_widened)
  b_widened : Binds K d_widened ["rect", "left", "up", "right", "down"] []
  f_around : Addr
  d_around : FuncData
  F_around : Fun K "around" "around" s_around f_around d_around
  m_around : mg "around" = some (.ref f_around)
  b_around : Binds K d_around ["rects"] []
  f_around_places : Addr
  d_around_places : FuncData
  F_around_places : Fun K "around_places" "around_places" s_around_places f_around_places d_around_places
  m_around_places : mg "around_places" = some (.ref f_around_places)
  b_around_places : Binds K d_around_places ["places"] []
  f_holds : Addr
  d_holds : FuncData
  F_holds : Fun K "holds" "holds" s_holds f_holds d_holds
  m_holds : mg "holds" = some (.ref f_holds)
  b_holds : Binds K d_holds ["rect", "x", "y"] []
  f_cut : Addr
  d_cut : FuncData
  F_cut : Fun K "cut" "cut" s_cut f_cut d_cut
  m_cut : mg "cut" = some (.ref f_cut)
  b_cut : Binds K d_cut ["block", "rect", "part"] []
  f_law_cell : Addr
  d_law_cell : FuncData
  F_law_cell : Fun K "_law_cell" "_law_cell" s_law_cell f_law_cell d_law_cell
  m_law_cell : mg "_law_cell" = some (.ref f_law_cell)
  b_law_cell : Binds K d_law_cell ["script", "k"] []
  f_law_draws : Addr
  d_law_draws : FuncData
  F_law_draws : Fun K "_law_draws" "_law_draws" s_law_draws f_law_draws d_law_draws
  m_law_draws : mg "_law_draws" = some (.ref f_law_draws)
  b_law_draws : Binds K d_law_draws ["script", "at", "count"] []
  f_law_rects : Addr
  d_law_rects : FuncData
  F_law_rects : Fun K "_law_rects" "_law_rects" s_law_rects f_law_rects d_law_rects
  m_law_rects : mg "_law_rects" = some (.ref f_law_rects)
  b_law_rects : Binds K d_law_rects ["numbers", "many"] []
  f_law_whole : Addr
  d_law_whole : FuncData
  F_law_whole : Fun K "_law_whole" "_law_whole" s_law_whole f_law_whole d_law_whole
  m_law_whole : mg "_law_whole" = some (.ref f_law_whole)
  b_law_whole : Binds K d_law_whole ["got"] []
  f_law_comb : Addr
  d_law_comb : FuncData
  F_law_comb : Fun K "_law_comb" "_law_comb" s_law_comb f_law_comb d_law_comb
  m_law_comb : mg "_law_comb" = some (.ref f_law_comb)
  b_law_comb : Binds K d_law_comb ["numbers"] []
  f_law_second : Addr
  d_law_second : FuncData
  F_law_second : Fun K "_law_second" "_law_second" s_law_second f_law_second d_law_second
  m_law_second : mg "_law_second" = some (.ref f_law_second)
  b_law_second : Binds K d_law_second ["a", "b", "way"] []
  f_law_common : Addr
  d_law_common : FuncData
  F_law_common : Fun K "_law_common" "_law_common" s_law_common f_law_common d_law_common
  m_law_common : mg "_law_common" = some (.ref f_law_common)
  b_law_common : Binds K d_law_common ["a", "b"] []
  f_law_hull : Addr
  d_law_hull : FuncData
  F_law_hull : Fun K "_law_hull" "_law_hull" s_law_hull f_law_hull d_law_hull
  m_law_hull : mg "_law_hull" = some (.ref f_law_hull)
  b_law_hull : Binds K d_law_hull ["rows"] []
  f_law_things : Addr
  d_law_things : FuncData
  F_law_things : Fun K "_law_things" "_law_things" s_law_things f_law_things d_law_things
  m_law_things : mg "_law_things" = some (.ref f_law_things)
  b_law_things : Binds K d_law_things ["mixed", "rect"] []
  f_law_block : Addr
  d_law_block : FuncData
  F_law_block : Fun K "_law_block" "_law_block" s_law_block f_law_block d_law_block
  m_law_block : mg "_law_block" = some (.ref f_law_block)
  b_law_block : Binds K d_law_block ["things", "rect"] []
  f_law_part : Addr
  d_law_part : FuncData
  F_law_part : Fun K "_law_part" "_law_part" s_law_part f_law_part d_law_part
  m_law_part : mg "_law_part" = some (.ref f_law_part)
  b_law_part : Binds K d_law_part ["rect", "numbers"] []
  f_law_numbers : Addr
  d_law_numbers : FuncData
  F_law_numbers : Fun K "_law_numbers" "_law_numbers" s_law_numbers f_law_numbers d_law_numbers
  m_law_numbers : mg "_law_numbers" = some (.ref f_law_numbers)
  b_law_numbers : Binds K d_law_numbers ["script", "at", "many", "seed", "small"] []
  f_law_same : Addr
  d_law_same : FuncData
  F_law_same : Fun K "_law_same" "_law_same" s_law_same f_law_same d_law_same
  m_law_same : mg "_law_same" = some (.ref f_law_same)
  b_law_same : Binds K d_law_same ["got", "due"] []
  f_law_pairs : Addr
  d_law_pairs : FuncData
  F_law_pairs : Fun K "_law_pairs" "_law_pairs" s_law_pairs f_law_pairs d_law_pairs
  m_law_pairs : mg "_law_pairs" = some (.ref f_law_pairs)
  b_law_pairs : Binds K d_law_pairs ["a", "b", "four"] []
  f_law_arounds : Addr
  d_law_arounds : FuncData
  F_law_arounds : Fun K "_law_arounds" "_law_arounds" s_law_arounds f_law_arounds d_law_arounds
  m_law_arounds : mg "_law_arounds" = some (.ref f_law_arounds)
  b_law_arounds : Binds K d_law_arounds ["rects", "places"] []
  f_law_inside : Addr
  d_law_inside : FuncData
  F_law_inside : Fun K "_law_inside" "_law_inside" s_law_inside f_law_inside d_law_inside
  m_law_inside : mg "_law_inside" = some (.ref f_law_inside)
  b_law_inside : Binds K d_law_inside ["a", "x", "y"] []
  f_law_cuts : Addr
  d_law_cuts : FuncData
  F_law_cuts : Fun K "_law_cuts" "_law_cuts" s_law_cuts f_law_cuts d_law_cuts
  m_law_cuts : mg "_law_cuts" = some (.ref f_law_cuts)
  b_law_cuts : Binds K d_law_cuts ["things", "rect", "part", "inner"] []
  f_law : Addr
  d_law : FuncData
  F_law : Fun K "law" "law" s_law f_law d_law
  m_law : mg "law" = some (.ref f_law)
  b_law : Binds K d_law ["script"] []
  z_abs : mg "abs" = none
  z_bool : mg "bool" = none
  z_int : mg "int" = none
  z_isinstance : mg "isinstance" = none
  z_len : mg "len" = none
  z_list : mg "list" = none
  z_max : mg "max" = none
  z_min : mg "min" = none
  z_range : mg "range" = none
  z_sorted : mg "sorted" = none
  z_str : mg "str" = none
  z_tuple : mg "tuple" = none
def absI (x : Int) : Int := if x < 0 then -x else x
theorem absI_nn (x : Int) : 0 ≤ absI x := by unfold absI; split <;> omega
theorem cx_no (P : Program) (w : World) (H : Hp) (s : Shared) (e : Value) (s' : Shared) (h : L2.CX P w [] H s (fun _ _ _ => False) e s') : False := by
  obtain ⟨_, _, _, _, _, _, _, _, _, _, _, _, z⟩ := h; exact z
theorem hu64 {k : Nat} {A : Around} (h : Room k A) : A.units + 64 < cLine := by have := h.un; omega
theorem ok_none {P : Program} {w : World} {K : PySem.W.Frag} {mg : Str → Option Value} {base : Heap} {CX : CXT} {k n : Nat} {f : Addr} {fd : FuncData} {ps : List Str} (hl : ps.length = n) : FnOk P w K mg base CX k f fd ps (SpP K n fun _ => none) where
  len := fun vs H Q E h => h.1.trans hl.symm
  run := fun _ _ _ _ _ _ _ _ _ _ _ _ _ h => by obtain ⟨_, _, _, _, _, h⟩ := h; exact h.elim
theorem rep_ints_c {K : PySem.W.Frag} {F : Hp} {a : Addr} {od : Option Addr} {sl : Array (Option Value)} {n : Nat} {its : Array Value} (vs : List Int) (lc : K.lookup a = some ⟨.type "tuple", od, .seq its n, sl⟩) (hs : its.size ≤ sizeLine) (hv : Vals (vs.map V.int) its.toList) : RepD K F (.ref a) (.tup (vs.map D.int)) := .tup (.inr ⟨_, its, n, lc, rfl, rfl, hs, hv⟩) (RepL.of_ints vs)
theorem repL_strs {K : PySem.W.Frag} {F : Hp} : ∀ vs : List Str, RepL K F (vs.map V.str) (vs.map D.str)
  | [] => .nil
  | _ :: r => .cons (.str _) (repL_strs r)
theorem rep_strs_c {K : PySem.W.Frag} {F : Hp} {a : Addr} {od : Option Addr} {sl : Array (Option Value)} {n : Nat} {its : Array Value} (vs : List Str) (lc : K.lookup a = some ⟨.type "tuple", od, .seq its n, sl⟩) (hs : its.size ≤ sizeLine) (hv : Vals (vs.map V.str) its.toList) : RepD K F (.ref a) (.tup (vs.map D.str)) := .tup (.inr ⟨_, its, n, lc, rfl, rfl, hs, hv⟩) (repL_strs vs)
theorem for_step {i : Nat} {body : MoS} {d : D} {r : List D} {ε ε' : List Ent} (h : body (ε.set i (.dat d)) = some (.nx ε')) : forGo (gdName i) body (d :: r) ε = forGo (gdName i) body r ε' := by
  show (match body (ε.set i (.dat d)) with | some (.nx e1) => forGo (gdName i) body r e1 | some (.ct e1) => forGo (gdName i) body r e1 | some (.bk e1) => some (.nx e1) | q => q) = _
  rw [h]
theorem for_ret {i : Nat} {body : MoS} {d v : D} {r : List D} {ε ε' : List Ent} (h : body (ε.set i (.dat d)) = some (.rt v ε')) : forGo (gdName i) body (d :: r) ε = some (.rt v ε') := by
  show (match body (ε.set i (.dat d)) with | some (.nx e1) => forGo (gdName i) body r e1 | some (.ct e1) => forGo (gdName i) body r e1 | some (.bk e1) => some (.nx e1) | q => q) = _
  rw [h]
theorem rangeD_ints (n : Nat) : rangeD 0 n = ((List.range n).map fun k : Nat => (k : Int)).map D.int := by
  unfold rangeD
  rw [List.map_map]
  apply List.map_congr_left
  intro k _
  show D.int (0 + (k : Int)) = D.int (k : Int)
  rw [Int.zero_add]
theorem rangeD_len (lo : Int) (n : Nat) : (rangeD lo n).length = n := by unfold rangeD; rw [List.length_map, List.length_range]
theorem seq_nx {m m2 : MoS} {ε ε' : List Ent} (h : m ε = some (.nx ε')) : mSeq m m2 ε = m2 ε' := by unfold mSeq; rw [h]
theorem rng_nat (n : Nat) (h : n ≤ 1000000) : rng1 [.int (n : Int)] = some (rangeD 0 n) := by
  unfold rng1
  dsimp only
  rw [if_pos (inR_mk (by omega) (by omega))]
  rfl
theorem rng1_run {ε ε' : List Ent} {ds es : List D} {f : Mo (List D)} (h1 : f ε = some (.ok ds ε')) (h : rng1 ds = some es) : (bnd f fun ds => lft (rng1 ds)) ε = some (.ok es ε') := by
  unfold bnd lft
  rw [h1]
  dsimp only
  rw [h]
theorem for_run {fi : Mo (List D)} {t : Tg} {body : MoS} {ε ε' : List Ent} {ds : List D} (h : fi ε = some (.ok ds ε')) : mFor fi t body ε = forGo t body ds ε' := by
  unfold mFor mThen
  rw [h]
theorem runO_go {n : Nat} {g : MoS} {ds rs : List D} {ε ε' : List Ent} (h0 : env0 n ds = ε) (h : g ε = some (.ro rs ε')) : runO n g ds = some rs := by
  unfold runO
  rw [h0, h]
theorem seq_rt {m m2 : MoS} {v : D} {ε ε' : List Ent} (h : m ε = some (.rt v ε')) : mSeq m m2 ε = some (.rt v ε') := by unfold mSeq; rw [h]
theorem runQ_go {n : Nat} {g : MoS} {ps ds qs : List D} {d : D} {ε es : List Ent} (h0 : envQ n ps ds = ε) (h : g ε = some (.rt d (.io qs :: es))) : runQ n g ps ds = some (.ret d, qs) := by
  unfold runQ
  rw [h0, h]
  rfl
section
variable {P : Program} {w : World} {K : PySem.W.Frag} {mg : Str → Option Value} {base : Heap}
def g_overlap : MoS := (mSeq (mSet 2 (mCall (gTwo gMax2) (mCons (mOp gIx (mVar 0) (pur (.int 0))) (mCons (mOp gIx (mVar 1) (pur (.int 0))) (pur [])))))
  (mSeq (mSet 3 (mCall (gTwo gMax2) (mCons (mOp gIx (mVar 0) (pur (.int 1))) (mCons (mOp gIx (mVar 1) (pur (.int 1))) (pur [])))))
  (mSeq (mSet 4 (mCall (gTwo gMin2) (mCons (mOp gIx (mVar 0) (pur (.int 2))) (mCons (mOp gIx (mVar 1) (pur (.int 2))) (pur [])))))
  (mSeq (mSet 5 (mCall (gTwo gMin2) (mCons (mOp gIx (mVar 0) (pur (.int 3))) (mCons (mOp gIx (mVar 1) (pur (.int 3))) (pur [])))))
  (mSeq (mIfS (mAnd (mB (mOp gLt (mVar 2) (mVar 4))) (mB (mOp gLt (mVar 3) (mVar 5)))) (mRet (mTup (mCons (mVar 2) (mCons (mVar 3) (mCons (mVar 4) (mCons (mVar 5) (pur []))))))) mNil)
  (mRet (pur .non)))))))
def m_overlap : List D → Option Ans := runP 6 g_overlap
theorem ok_overlap (T : Txt P w K mg) : FnOk P w K mg base (CXX P w) 1 T.f_overlap T.d_overlap ["a", "b"] (SpP K 2 m_overlap) := by
  exact fn_P (g := g_overlap) T.F_overlap sc_overlap (fun cdv A outer s H E C hA hr tk => (ss_cons (st_set (fun _ p => ps_set (i := 2) sc_overlap.nd rfl (by first | exact Or.inl rfl | exact Or.inr rfl) p) (ev_cb vc_max2 (ea_cons (ev_item (fun _ _ => rfl) (ev_var 0 (pv 0)) ev_int) (ea_cons (ev_item (fun _ _ => rfl) (ev_var 1 (pv 1)) ev_int) ea_nil)) fun _ p => pe_callB (call_max2 rfl) (by rfl) T.z_max (by decide +kernel) p))
      (ss_cons (st_set (fun _ p => ps_set (i := 3) sc_overlap.nd rfl (by first | exact Or.inl rfl | exact Or.inr rfl) p) (ev_cb vc_max2 (ea_cons (ev_item (fun _ _ => rfl) (ev_var 0 (pv 0)) ev_int) (ea_cons (ev_item (fun _ _ => rfl) (ev_var 1 (pv 1)) ev_int) ea_nil)) fun _ p => pe_callB (call_max2 rfl) (by rfl) T.z_max (by decide +kernel) p))
      (ss_cons (st_set (fun _ p => ps_set (i := 4) sc_overlap.nd rfl (by first | exact Or.inl rfl | exact Or.inr rfl) p) (ev_cb vc_min2 (ea_cons (ev_item (fun _ _ => rfl) (ev_var 0 (pv 0)) ev_int) (ea_cons (ev_item (fun _ _ => rfl) (ev_var 1 (pv 1)) ev_int) ea_nil)) fun _ p => pe_callB (call_min2 rfl) (by rfl) T.z_min (by decide +kernel) p))
      (ss_cons (st_set (fun _ p => ps_set (i := 5) sc_overlap.nd rfl (by first | exact Or.inl rfl | exact Or.inr rfl) p) (ev_cb vc_min2 (ea_cons (ev_item (fun _ _ => rfl) (ev_var 0 (pv 0)) ev_int) (ea_cons (ev_item (fun _ _ => rfl) (ev_var 1 (pv 1)) ev_int) ea_nil)) fun _ p => pe_callB (call_min2 rfl) (by rfl) T.z_min (by decide +kernel) p))
      (ss_cons (st_if (te_w (tw_and (te_cmp op_lt (nomark _) (vop_I0 fun _ _ _ => .bl _) (ev_var 2 (pv 2)) (ev_var 4 (pv 4))) (tw_and1 (te_cmp op_lt (nomark _) (vop_I0 fun _ _ _ => .bl _) (ev_var 3 (pv 3)) (ev_var 5 (pv 5)))))) (ss_one (st_ret (ev_tup (ea_cons (ev_var 2 (pv 2)) (ea_cons (ev_var 3 (pv 3)) (ea_cons (ev_var 4 (pv 4)) (ea_cons (ev_var 5 (pv 5)) ea_nil))))))) ss_nil)
      (ss_one (st_ret ev_non)))))))) (fun _ _ _ h => h)
@[irreducible] noncomputable def t_overlap (a0 : (Int × Int × Int × Int)) (b0 : (Int × Int × Int × Int)) : Option (Option (Int × Int × Int × Int)) :=
letO ((max2T a0.1 b0.1) : Int) fun x01 =>
letO ((max2T a0.2.1 b0.2.1) : Int) fun y02 =>
letO ((min2T a0.2.2.1 b0.2.2.1) : Int) fun x13 =>
letO ((min2T a0.2.2.2 b0.2.2.2) : Int) fun y14 =>
if ((decide (x01 < x13)) && (decide (y02 < y14))) = true then
some ((some ((x01, y02, x13, y14))))
else
some ((none : (Option (Int × Int × Int × Int))))
theorem tq_overlap (a0 : (Int × Int × Int × Int)) (b0 : (Int × Int × Int × Int)) : QS (RP (eO (e4 eI eI eI eI))) g_overlap [.dat ((e4 eI eI eI eI) a0), .dat ((e4 eI eI eI eI) b0), .un, .un, .un, .un] (t_overlap a0 b0) := by unfold t_overlap; exact (qs_set (qc_call (qc_cons (qc_op (qc_var rfl (qc_pur (qt_tot (eI a0.1) rfl (qc_cons (qc_op (qc_var rfl (qc_pur (qt_tot (eI b0.1) rfl (qc_nil (qt_tot (eI ((max2T a0.1 b0.1))) rfl (qs_let (v := (max2T a0.1 b0.1)) (fun x01 => [.dat ((e4 eI eI eI eI) a0), .dat ((e4 eI eI eI eI) b0), .dat (eI x01), .un, .un, .un]) fun x01 => (qs_set (qc_call (qc_cons (qc_op (qc_var rfl (qc_pur (qt_tot (eI a0.2.1) rfl (qc_cons (qc_op (qc_var rfl (qc_pur (qt_tot (eI b0.2.1) rfl (qc_nil (qt_tot (eI ((max2T a0.2.1 b0.2.1))) rfl (qs_let (v := (max2T a0.2.1 b0.2.1)) (fun y02 => [.dat ((e4 eI eI eI eI) a0), .dat ((e4 eI eI eI eI) b0), .dat (eI x01), .dat (eI y02), .un, .un]) fun y02 => (qs_set (qc_call (qc_cons (qc_op (qc_var rfl (qc_pur (qt_tot (eI a0.2.2.1) rfl (qc_cons (qc_op (qc_var rfl (qc_pur (qt_tot (eI b0.2.2.1) rfl (qc_nil (qt_tot (eI ((min2T a0.2.2.1 b0.2.2.1))) rfl (qs_let (v := (min2T a0.2.2.1 b0.2.2.1)) (fun x13 => [.dat ((e4 eI eI eI eI) a0), .dat ((e4 eI eI eI eI) b0), .dat (eI x01), .dat (eI y02), .dat (eI x13), .un]) fun x13 => (qs_set (qc_call (qc_cons (qc_op (qc_var rfl (qc_pur (qt_tot (eI a0.2.2.2) rfl (qc_cons (qc_op (qc_var rfl (qc_pur (qt_tot (eI b0.2.2.2) rfl (qc_nil (qt_tot (eI ((min2T a0.2.2.2 b0.2.2.2))) rfl (qs_let (v := (min2T a0.2.2.2 b0.2.2.2)) (fun y14 => [.dat ((e4 eI eI eI eI) a0), .dat ((e4 eI eI eI eI) b0), .dat (eI x01), .dat (eI y02), .dat (eI x13), .dat (eI y14)]) fun y14 => (qs_if (qc_and (qc_B (qc_op (qc_var rfl (qc_var rfl (qt_tot (eB ((decide (x01 < x13)))) rfl ⟨_, rfl, ⟨_, (fun _ => (qc_B (qc_op (qc_var rfl (qc_var rfl (qt_tot (eB ((decide (y02 < y14)))) rfl ⟨_, rfl, ⟨rfl, rfl, rfl⟩⟩)))))), ⟨_, _, rfl, (qs_end (qs_ret (qc_tup (qc_cons (qc_var rfl (qc_cons (qc_var rfl (qc_cons (qc_var rfl (qc_cons (qc_var rfl (qc_nil ⟨(Nat.le_of_ble_eq_true rfl), (fin (nx_rt ⟨_, rfl⟩))⟩)))))))))))), (qs_skip (qs_ret (qc_pur (fin ⟨_, rfl⟩))))⟩⟩⟩)))))))))))))))))))))))))))))))))))))))))))))))))))))))))))))))))))
theorem tt_overlap {a0 : (Int × Int × Int × Int)} {b0 : (Int × Int × Int × Int)} {r : (Option (Int × Int × Int × Int))} (h : t_overlap a0 b0 = some r) : m_overlap [(e4 eI eI eI eI) a0, (e4 eI eI eI eI) b0] = some (.ret ((eO (e4 eI eI eI eI)) r)) := run_P (ε := [.dat ((e4 eI eI eI eI) a0), .dat ((e4 eI eI eI eI) b0), .un, .un, .un, .un]) rfl (tq_overlap a0 b0) h
def g_widened : MoS := (mSeq (mAsg (gdTup [5, 6, 7, 8]) (mVar 0))
  (mRet (mTup (mCons (mOp DL.gSub (mVar 5) (mVar 1)) (mCons (mOp DL.gSub (mVar 6) (mVar 2)) (mCons (mOp gAdd (mVar 7) (mVar 3)) (mCons (mOp gAdd (mVar 8) (mVar 4)) (pur []))))))))
def m_widened : List D → Option Ans := runP 9 g_widened
theorem ok_widened (T : Txt P w K mg) : FnOk P w K mg base (CXX P w) 1 T.f_widened T.d_widened ["rect", "left", "up", "right", "down"] (SpP K 5 m_widened) := by
  exact fn_P (g := g_widened) T.F_widened sc_widened (fun cdv A outer s H E C hA hr tk => (ss_cons (st_asgG (tgt := .Constant .none 0 ⟨0, 0, 0, 0⟩) (fun _ p => ps_asg p (pg_tup (n := 4) rfl (pgs_cons (pg_name (i := 5) sc_widened.nd rfl (by first | exact Or.inl rfl | exact Or.inr rfl)) (pgs_cons (pg_name (i := 6) sc_widened.nd rfl (by first | exact Or.inl rfl | exact Or.inr rfl)) (pgs_cons (pg_name (i := 7) sc_widened.nd rfl (by first | exact Or.inl rfl | exact Or.inr rfl)) (pgs_cons (pg_name (i := 8) sc_widened.nd rfl (by first | exact Or.inl rfl | exact Or.inr rfl)) pgs_nil)))))) (sg_tup (is := [5, 6, 7, 8]) (by rfl)) (ev_var 0 (pv 0)))
      (ss_one (st_ret (ev_tup (ea_cons (ev_sub (ev_var 5 (pv 5)) (ev_var 1 (pv 1))) (ea_cons (ev_sub (ev_var 6 (pv 6)) (ev_var 2 (pv 2))) (ea_cons (ev_add (ev_var 7 (pv 7)) (ev_var 3 (pv 3))) (ea_cons (ev_add (ev_var 8 (pv 8)) (ev_var 4 (pv 4))) ea_nil))))))))) (fun _ _ _ h => h)
@[irreducible] noncomputable def t_widened (rect0 : (Int × Int × Int × Int)) (left0 : Int) (up0 : Int) (right0 : Int) (down0 : Int) : Option (Int × Int × Int × Int) :=
some (((rect0.1 - left0), (rect0.2.1 - up0), (rect0.2.2.1 + right0), (rect0.2.2.2 + down0)))
theorem tq_widened (rect0 : (Int × Int × Int × Int)) (left0 : Int) (up0 : Int) (right0 : Int) (down0 : Int) : QS (RP (e4 eI eI eI eI)) g_widened [.dat ((e4 eI eI eI eI) rect0), .dat (eI left0), .dat (eI up0), .dat (eI right0), .dat (eI down0), .un, .un, .un, .un] (t_widened rect0 left0 up0 right0 down0) := by unfold t_widened; exact (qs_asg (qc_var rfl ⟨_, rfl, qs_fr (ε' := [.dat ((e4 eI eI eI eI) rect0), .dat (eI left0), .dat (eI up0), .dat (eI right0), .dat (eI down0), .dat (eI rect0.1), .dat (eI rect0.2.1), .dat (eI rect0.2.2.1), .dat (eI rect0.2.2.2)]) rfl (qs_ret (qc_tup (qc_cons (qc_op (qc_var rfl (qc_var rfl (qt_tot (eI ((rect0.1 - left0))) rfl (qc_cons (qc_op (qc_var rfl (qc_var rfl (qt_tot (eI ((rect0.2.1 - up0))) rfl (qc_cons (qc_op (qc_var rfl (qc_var rfl (qt_tot (eI ((rect0.2.2.1 + right0))) rfl (qc_cons (qc_op (qc_var rfl (qc_var rfl (qt_tot (eI ((rect0.2.2.2 + down0))) rfl (qc_nil ⟨(Nat.le_of_ble_eq_true rfl), (fin ⟨_, rfl⟩)⟩)))))))))))))))))))))))⟩))
theorem tt_widened {rect0 : (Int × Int × Int × Int)} {left0 : Int} {up0 : Int} {right0 : Int} {down0 : Int} {r : (Int × Int × Int × Int)} (h : t_widened rect0 left0 up0 right0 down0 = some r) : m_widened [(e4 eI eI eI eI) rect0, eI left0, eI up0, eI right0, eI down0] = some (.ret ((e4 eI eI eI eI) r)) := run_P (ε := [.dat ((e4 eI eI eI eI) rect0), .dat (eI left0), .dat (eI up0), .dat (eI right0), .dat (eI down0), .un, .un, .un, .un]) rfl (tq_widened rect0 left0 up0 right0 down0) h
def bd_around_1 : Mo D := (mOp gIx (mVar 1) (pur (.int 3)))
def bd_around_2 : Mo (List D) := (mLc [1] (bnd (mVar 0) fun d => lft (tupOf d)) (gdName 1) (pur true) bd_around_1)
def bd_around_3 : Mo D := (mOp gIx (mVar 1) (pur (.int 3)))
def bd_around_4 : Mo (List D) := (mLc [1] (bnd (mVar 0) fun d => lft (tupOf d)) (gdName 1) (pur true) bd_around_3)
def bd_around_5 : Mo D := (mOp gIx (mVar 1) (pur (.int 2)))
def bd_around_6 : Mo (List D) := (mLc [1] (bnd (mVar 0) fun d => lft (tupOf d)) (gdName 1) (pur true) bd_around_5)
def bd_around_7 : Mo D := (mOp gIx (mVar 1) (pur (.int 2)))
def bd_around_8 : Mo (List D) := (mLc [1] (bnd (mVar 0) fun d => lft (tupOf d)) (gdName 1) (pur true) bd_around_7)
def bd_around_9 : Mo D := (mOp gIx (mVar 1) (pur (.int 1)))
def bd_around_10 : Mo (List D) := (mLc [1] (bnd (mVar 0) fun d => lft (tupOf d)) (gdName 1) (pur true) bd_around_9)
def bd_around_11 : Mo D := (mOp gIx (mVar 1) (pur (.int 1)))
def bd_around_12 : Mo (List D) := (mLc [1] (bnd (mVar 0) fun d => lft (tupOf d)) (gdName 1) (pur true) bd_around_11)
def bd_around_13 : Mo D := (mOp gIx (mVar 1) (pur (.int 0)))
def bd_around_14 : Mo (List D) := (mLc [1] (bnd (mVar 0) fun d => lft (tupOf d)) (gdName 1) (pur true) bd_around_13)
def bd_around_15 : Mo D := (mOp gIx (mVar 1) (pur (.int 0)))
def bd_around_16 : Mo (List D) := (mLc [1] (bnd (mVar 0) fun d => lft (tupOf d)) (gdName 1) (pur true) bd_around_15)
def g_around : MoS := (mSeq (mIfS (mNot (mTruth (mVar 0))) (mRet (pur .non)) mNil)
  (mRet (mTup (mCons (mCall (gOne gMinL) (mCons (mFz bd_around_14) (pur []))) (mCons (mCall (gOne gMinL) (mCons (mFz bd_around_10) (pur []))) (mCons (mCall (gOne gMaxL) (mCons (mFz bd_around_6) (pur []))) (mCons (mCall (gOne gMaxL) (mCons (mFz bd_around_2) (pur []))) (pur []))))))))
def m_around : List D → Option Ans := runP 2 g_around
theorem ok_around (T : Txt P w K mg) : FnOk P w K mg base (CXX P w) 1 T.f_around T.d_around ["rects"] (SpP K 1 m_around) := by
  exact fn_P (g := g_around) T.F_around sc_around (fun cdv A outer s H E C hA hr tk => (ss_cons (st_if (te_not (te_seq (ev_var 0 (pv 0)))) (ss_one (st_ret ev_non)) ss_nil)
      (ss_one (st_ret (ev_tup (ea_cons (ev_cb vc_minL (ea_cons (ev_lc (own := [("rect", 1)]) rfl sc_around.nd (ei_tup (ev_var 0 (pv 0))) (blkOk_by (own := [("rect", 1)]) (N := N_around) (sc := defScope s_around) (by decide +kernel)) (fun _ _ _ _ _ => (pg_name (i := 1) sc_around.nd rfl (by first | exact Or.inl rfl | exact Or.inr rfl))) (sg_name (i := 1)) (fun _ _ _ _ _ => pt_nilD) (fun _ _ _ _ _ => (ev_item (fun _ _ => rfl) (ev_var 1 (pv 1)) ev_int)) (by decide) (by decide)).frz ea_nil) fun _ p => pe_callB (cr_min rfl) (by rfl) T.z_min (by decide +kernel) p) (ea_cons (ev_cb vc_minL (ea_cons (ev_lc (own := [("rect", 1)]) rfl sc_around.nd (ei_tup (ev_var 0 (pv 0))) (blkOk_by (own := [("rect", 1)]) (N := N_around) (sc := defScope s_around) (by decide +kernel)) (fun _ _ _ _ _ => (pg_name (i := 1) sc_around.nd rfl (by first | exact Or.inl rfl | exact Or.inr rfl))) (sg_name (i := 1)) (fun _ _ _ _ _ => pt_nilD) (fun _ _ _ _ _ => (ev_item (fun _ _ => rfl) (ev_var 1 (pv 1)) ev_int)) (by decide) (by decide)).frz ea_nil) fun _ p => pe_callB (cr_min rfl) (by rfl) T.z_min (by decide +kernel) p) (ea_cons (ev_cb vc_maxL (ea_cons (ev_lc (own := [("rect", 1)]) rfl sc_around.nd (ei_tup (ev_var 0 (pv 0))) (blkOk_by (own := [("rect", 1)]) (N := N_around) (sc := defScope s_around) (by decide +kernel)) (fun _ _ _ _ _ => (pg_name (i := 1) sc_around.nd rfl (by first | exact Or.inl rfl | exact Or.inr rfl))) (sg_name (i := 1)) (fun _ _ _ _ _ => pt_nilD) (fun _ _ _ _ _ => (ev_item (fun _ _ => rfl) (ev_var 1 (pv 1)) ev_int)) (by decide) (by decide)).frz ea_nil) fun _ p => pe_callB (cr_max rfl) (by rfl) T.z_max (by decide +kernel) p) (ea_cons (ev_cb vc_maxL (ea_cons (ev_lc (own := [("rect", 1)]) rfl sc_around.nd (ei_tup (ev_var 0 (pv 0))) (blkOk_by (own := [("rect", 1)]) (N := N_around) (sc := defScope s_around) (by decide +kernel)) (fun _ _ _ _ _ => (pg_name (i := 1) sc_around.nd rfl (by first | exact Or.inl rfl | exact Or.inr rfl))) (sg_name (i := 1)) (fun _ _ _ _ _ => pt_nilD) (fun _ _ _ _ _ => (ev_item (fun _ _ => rfl) (ev_var 1 (pv 1)) ev_int)) (by decide) (by decide)).frz ea_nil) fun _ p => pe_callB (cr_max rfl) (by rfl) T.z_max (by decide +kernel) p) ea_nil))))))))) (fun _ _ _ h => h)
@[irreducible] noncomputable def u_around_1  : (Int × Int × Int × Int) → Option Int := fun (a1 : (Int × Int × Int × Int)) =>
some a1.1
@[irreducible] noncomputable def u_around_2  : (Int × Int × Int × Int) → Option Int := fun (a4 : (Int × Int × Int × Int)) =>
some a4.2.1
@[irreducible] noncomputable def u_around_3  : (Int × Int × Int × Int) → Option Int := fun (a7 : (Int × Int × Int × Int)) =>
some a7.2.2.1
@[irreducible] noncomputable def u_around_4  : (Int × Int × Int × Int) → Option Int := fun (a10 : (Int × Int × Int × Int)) =>
some a10.2.2.2
@[irreducible] noncomputable def t_around (rects0 : (List (Int × Int × Int × Int))) : Option (Option (Int × Int × Int × Int)) :=
if (!((!rects0.isEmpty))) = true then
some ((none : (Option (Int × Int × Int × Int))))
else
(capG rects0.length).bind fun _ => (mapO u_around_1 rects0).bind fun cs2 =>
(minG cs2).bind fun m3 =>
(capG rects0.length).bind fun _ => (mapO u_around_2 rects0).bind fun cs5 =>
(minG cs5).bind fun m6 =>
(capG rects0.length).bind fun _ => (mapO u_around_3 rects0).bind fun cs8 =>
(maxG cs8).bind fun m9 =>
(capG rects0.length).bind fun _ => (mapO u_around_4 rects0).bind fun cs11 =>
(maxG cs11).bind fun m12 =>
some ((some ((m3, m6, m9, m12))))
theorem tq_around (rects0 : (List (Int × Int × Int × Int))) : QS (RP (eO (e4 eI eI eI eI))) g_around [.dat ((eT (e4 eI eI eI eI)) rects0), .un] (t_around rects0) := by unfold t_around; exact (qs_if (qc_not (qc_truthM (qc_var rfl ⟨_, _, _, rfl, ⟨_, _, rfl, (qs_end (qs_ret (qc_pur (fin (nx_rt ⟨_, rfl⟩))))), (qs_skip (qs_ret (qc_tup (qc_cons (qc_call (qc_cons (qc_fz (qc_lcA (qc_bnd (qc_var rfl (qc_lft (qt_tot _ rfl ⟨_, _, rects0, (e4 eI eI eI eI), u_around_1, eI, _, rfl, rfl, rfl, rfl, (fun a1 => ⟨_, rfl, rfl, by unfold u_around_1; exact (qc_op (qc_var rfl (qc_pur (qt_tot (eI a1.1) rfl ⟨_, rfl, rfl, rfl⟩))))⟩), fun cs2 => (qc_nil (qt_par (t := minG cs2) eI (fun _ h => minL_ok (xs := cs2) h) fun m3 => (qc_cons (qc_call (qc_cons (qc_fz (qc_lcA (qc_bnd (qc_var rfl (qc_lft (qt_tot _ rfl ⟨_, _, rects0, (e4 eI eI eI eI), u_around_2, eI, _, rfl, rfl, rfl, rfl, (fun a4 => ⟨_, rfl, rfl, by unfold u_around_2; exact (qc_op (qc_var rfl (qc_pur (qt_tot (eI a4.2.1) rfl ⟨_, rfl, rfl, rfl⟩))))⟩), fun cs5 => (qc_nil (qt_par (t := minG cs5) eI (fun _ h => minL_ok (xs := cs5) h) fun m6 => (qc_cons (qc_call (qc_cons (qc_fz (qc_lcA (qc_bnd (qc_var rfl (qc_lft (qt_tot _ rfl ⟨_, _, rects0, (e4 eI eI eI eI), u_around_3, eI, _, rfl, rfl, rfl, rfl, (fun a7 => ⟨_, rfl, rfl, by unfold u_around_3; exact (qc_op (qc_var rfl (qc_pur (qt_tot (eI a7.2.2.1) rfl ⟨_, rfl, rfl, rfl⟩))))⟩), fun cs8 => (qc_nil (qt_par (t := maxG cs8) eI (fun _ h => maxL_ok (xs := cs8) h) fun m9 => (qc_cons (qc_call (qc_cons (qc_fz (qc_lcA (qc_bnd (qc_var rfl (qc_lft (qt_tot _ rfl ⟨_, _, rects0, (e4 eI eI eI eI), u_around_4, eI, _, rfl, rfl, rfl, rfl, (fun a10 => ⟨_, rfl, rfl, by unfold u_around_4; exact (qc_op (qc_var rfl (qc_pur (qt_tot (eI a10.2.2.2) rfl ⟨_, rfl, rfl, rfl⟩))))⟩), fun cs11 => (qc_nil (qt_par (t := maxG cs11) eI (fun _ h => maxL_ok (xs := cs11) h) fun m12 => (qc_nil ⟨(Nat.le_of_ble_eq_true rfl), (fin ⟨_, rfl⟩)⟩)))⟩)))))))))))⟩)))))))))))⟩)))))))))))⟩))))))))))))⟩⟩))))
theorem tt_around {rects0 : (List (Int × Int × Int × Int))} {r : (Option (Int × Int × Int × Int))} (h : t_around rects0 = some r) : m_around [(eT (e4 eI eI eI eI)) rects0] = some (.ret ((eO (e4 eI eI eI eI)) r)) := run_P (ε := [.dat ((eT (e4 eI eI eI eI)) rects0), .un]) rfl (tq_around rects0) h
def bd_aroundL_1 : Mo D := (mOp gIx (mVar 1) (pur (.int 3)))
def bd_aroundL_2 : Mo (List D) := (mLc [1] (bnd (mVar 0) fun d => lft (lstOf d)) (gdName 1) (pur true) bd_aroundL_1)
def bd_aroundL_3 : Mo D := (mOp gIx (mVar 1) (pur (.int 3)))
def bd_aroundL_4 : Mo (List D) := (mLc [1] (bnd (mVar 0) fun d => lft (lstOf d)) (gdName 1) (pur true) bd_aroundL_3)
def bd_aroundL_5 : Mo D := (mOp gIx (mVar 1) (pur (.int 2)))
def bd_aroundL_6 : Mo (List D) := (mLc [1] (bnd (mVar 0) fun d => lft (lstOf d)) (gdName 1) (pur true) bd_aroundL_5)
def bd_aroundL_7 : Mo D := (mOp gIx (mVar 1) (pur (.int 2)))
def bd_aroundL_8 : Mo (List D) := (mLc [1] (bnd (mVar 0) fun d => lft (lstOf d)) (gdName 1) (pur true) bd_aroundL_7)
def bd_aroundL_9 : Mo D := (mOp gIx (mVar 1) (pur (.int 1)))
def bd_aroundL_10 : Mo (List D) := (mLc [1] (bnd (mVar 0) fun d => lft (lstOf d)) (gdName 1) (pur true) bd_aroundL_9)
def bd_aroundL_11 : Mo D := (mOp gIx (mVar 1) (pur (.int 1)))
def bd_aroundL_12 : Mo (List D) := (mLc [1] (bnd (mVar 0) fun d => lft (lstOf d)) (gdName 1) (pur true) bd_aroundL_11)
def bd_aroundL_13 : Mo D := (mOp gIx (mVar 1) (pur (.int 0)))
def bd_aroundL_14 : Mo (List D) := (mLc [1] (bnd (mVar 0) fun d => lft (lstOf d)) (gdName 1) (pur true) bd_aroundL_13)
def bd_aroundL_15 : Mo D := (mOp gIx (mVar 1) (pur (.int 0)))
def bd_aroundL_16 : Mo (List D) := (mLc [1] (bnd (mVar 0) fun d => lft (lstOf d)) (gdName 1) (pur true) bd_aroundL_15)
def g_aroundL : MoS := (mSeq (mIfS (mNot (mTruth (mVar 0))) (mRet (pur .non)) mNil)
  (mRet (mTup (mCons (mCall (gOne gMinL) (mCons (mFz bd_aroundL_14) (pur []))) (mCons (mCall (gOne gMinL) (mCons (mFz bd_aroundL_10) (pur []))) (mCons (mCall (gOne gMaxL) (mCons (mFz bd_aroundL_6) (pur []))) (mCons (mCall (gOne gMaxL) (mCons (mFz bd_aroundL_2) (pur []))) (pur []))))))))
def m_aroundL : List D → Option Ans := runP 2 g_aroundL
theorem ok_aroundL (T : Txt P w K mg) : FnOk P w K mg base (CXX P w) 1 T.f_around T.d_around ["rects"] (SpP K 1 m_aroundL) := by
  exact fn_P (g := g_aroundL) T.F_around sc_around (fun cdv A outer s H E C hA hr tk => (ss_cons (st_if (te_not (te_seq (ev_var 0 (pv 0)))) (ss_one (st_ret ev_non)) ss_nil)
      (ss_one (st_ret (ev_tup (ea_cons (ev_cb vc_minL (ea_cons (ev_lc (own := [("rect", 1)]) rfl sc_around.nd (ei_list (ev_var 0 (pv 0))) (blkOk_by (own := [("rect", 1)]) (N := N_around) (sc := defScope s_around) (by decide +kernel)) (fun _ _ _ _ _ => (pg_name (i := 1) sc_around.nd rfl (by first | exact Or.inl rfl | exact Or.inr rfl))) (sg_name (i := 1)) (fun _ _ _ _ _ => pt_nilD) (fun _ _ _ _ _ => (ev_item (fun _ _ => rfl) (ev_var 1 (pv 1)) ev_int)) (by decide) (by decide)).frz ea_nil) fun _ p => pe_callB (cr_min rfl) (by rfl) T.z_min (by decide +kernel) p) (ea_cons (ev_cb vc_minL (ea_cons (ev_lc (own := [("rect", 1)]) rfl sc_around.nd (ei_list (ev_var 0 (pv 0))) (blkOk_by (own := [("rect", 1)]) (N := N_around) (sc := defScope s_around) (by decide +kernel)) (fun _ _ _ _ _ => (pg_name (i := 1) sc_around.nd rfl (by first | exact Or.inl rfl | exact Or.inr rfl))) (sg_name (i := 1)) (fun _ _ _ _ _ => pt_nilD) (fun _ _ _ _ _ => (ev_item (fun _ _ => rfl) (ev_var 1 (pv 1)) ev_int)) (by decide) (by decide)).frz ea_nil) fun _ p => pe_callB (cr_min rfl) (by rfl) T.z_min (by decide +kernel) p) (ea_cons (ev_cb vc_maxL (ea_cons (ev_lc (own := [("rect", 1)]) rfl sc_around.nd (ei_list (ev_var 0 (pv 0))) (blkOk_by (own := [("rect", 1)]) (N := N_around) (sc := defScope s_around) (by decide +kernel)) (fun _ _ _ _ _ => (pg_name (i := 1) sc_around.nd rfl (by first | exact Or.inl rfl | exact Or.inr rfl))) (sg_name (i := 1)) (fun _ _ _ _ _ => pt_nilD) (fun _ _ _ _ _ => (ev_item (fun _ _ => rfl) (ev_var 1 (pv 1)) ev_int)) (by decide) (by decide)).frz ea_nil) fun _ p => pe_callB (cr_max rfl) (by rfl) T.z_max (by decide +kernel) p) (ea_cons (ev_cb vc_maxL (ea_cons (ev_lc (own := [("rect", 1)]) rfl sc_around.nd (ei_list (ev_var 0 (pv 0))) (blkOk_by (own := [("rect", 1)]) (N := N_around) (sc := defScope s_around) (by decide +kernel)) (fun _ _ _ _ _ => (pg_name (i := 1) sc_around.nd rfl (by first | exact Or.inl rfl | exact Or.inr rfl))) (sg_name (i := 1)) (fun _ _ _ _ _ => pt_nilD) (fun _ _ _ _ _ => (ev_item (fun _ _ => rfl) (ev_var 1 (pv 1)) ev_int)) (by decide) (by decide)).frz ea_nil) fun _ p => pe_callB (cr_max rfl) (by rfl) T.z_max (by decide +kernel) p) ea_nil))))))))) (fun _ _ _ h => h)
@[irreducible] noncomputable def u_aroundL_1  : (Int × Int × Int × Int) → Option Int := fun (a1 : (Int × Int × Int × Int)) =>
some a1.1
@[irreducible] noncomputable def u_aroundL_2  : (Int × Int × Int × Int) → Option Int := fun (a4 : (Int × Int × Int × Int)) =>
some a4.2.1
@[irreducible] noncomputable def u_aroundL_3  : (Int × Int × Int × Int) → Option Int := fun (a7 : (Int × Int × Int × Int)) =>
some a7.2.2.1
@[irreducible] noncomputable def u_aroundL_4  : (Int × Int × Int × Int) → Option Int := fun (a10 : (Int × Int × Int × Int)) =>
some a10.2.2.2
@[irreducible] noncomputable def t_aroundL (rects0 : (List (Int × Int × Int × Int))) : Option (Option (Int × Int × Int × Int)) :=
if (!((!rects0.isEmpty))) = true then
some ((none : (Option (Int × Int × Int × Int))))
else
(capG rects0.length).bind fun _ => (mapO u_aroundL_1 rects0).bind fun cs2 =>
(minG cs2).bind fun m3 =>
(capG rects0.length).bind fun _ => (mapO u_aroundL_2 rects0).bind fun cs5 =>
(minG cs5).bind fun m6 =>
(capG rects0.length).bind fun _ => (mapO u_aroundL_3 rects0).bind fun cs8 =>
(maxG cs8).bind fun m9 =>
(capG rects0.length).bind fun _ => (mapO u_aroundL_4 rects0).bind fun cs11 =>
(maxG cs11).bind fun m12 =>
some ((some ((m3, m6, m9, m12))))
theorem tq_aroundL (rects0 : (List (Int × Int × Int × Int))) : QS (RP (eO (e4 eI eI eI eI))) g_aroundL [.dat ((eL (e4 eI eI eI eI)) rects0), .un] (t_aroundL rects0) := by unfold t_aroundL; exact (qs_if (qc_not (qc_truthM (qc_var rfl ⟨_, _, _, rfl, ⟨_, _, rfl, (qs_end (qs_ret (qc_pur (fin (nx_rt ⟨_, rfl⟩))))), (qs_skip (qs_ret (qc_tup (qc_cons (qc_call (qc_cons (qc_fz (qc_lcA (qc_bnd (qc_var rfl (qc_lft (qt_tot _ rfl ⟨_, _, rects0, (e4 eI eI eI eI), u_aroundL_1, eI, _, rfl, rfl, rfl, rfl, (fun a1 => ⟨_, rfl, rfl, by unfold u_aroundL_1; exact (qc_op (qc_var rfl (qc_pur (qt_tot (eI a1.1) rfl ⟨_, rfl, rfl, rfl⟩))))⟩), fun cs2 => (qc_nil (qt_par (t := minG cs2) eI (fun _ h => minL_ok (xs := cs2) h) fun m3 => (qc_cons (qc_call (qc_cons (qc_fz (qc_lcA (qc_bnd (qc_var rfl (qc_lft (qt_tot _ rfl ⟨_, _, rects0, (e4 eI eI eI eI), u_aroundL_2, eI, _, rfl, rfl, rfl, rfl, (fun a4 => ⟨_, rfl, rfl, by unfold u_aroundL_2; exact (qc_op (qc_var rfl (qc_pur (qt_tot (eI a4.2.1) rfl ⟨_, rfl, rfl, rfl⟩))))⟩), fun cs5 => (qc_nil (qt_par (t := minG cs5) eI (fun _ h => minL_ok (xs := cs5) h) fun m6 => (qc_cons (qc_call (qc_cons (qc_fz (qc_lcA (qc_bnd (qc_var rfl (qc_lft (qt_tot _ rfl ⟨_, _, rects0, (e4 eI eI eI eI), u_aroundL_3, eI, _, rfl, rfl, rfl, rfl, (fun a7 => ⟨_, rfl, rfl, by unfold u_aroundL_3; exact (qc_op (qc_var rfl (qc_pur (qt_tot (eI a7.2.2.1) rfl ⟨_, rfl, rfl, rfl⟩))))⟩), fun cs8 => (qc_nil (qt_par (t := maxG cs8) eI (fun _ h => maxL_ok (xs := cs8) h) fun m9 => (qc_cons (qc_call (qc_cons (qc_fz (qc_lcA (qc_bnd (qc_var rfl (qc_lft (qt_tot _ rfl ⟨_, _, rects0, (e4 eI eI eI eI), u_aroundL_4, eI, _, rfl, rfl, rfl, rfl, (fun a10 => ⟨_, rfl, rfl, by unfold u_aroundL_4; exact (qc_op (qc_var rfl (qc_pur (qt_tot (eI a10.2.2.2) rfl ⟨_, rfl, rfl, rfl⟩))))⟩), fun cs11 => (qc_nil (qt_par (t := maxG cs11) eI (fun _ h => maxL_ok (xs := cs11) h) fun m12 => (qc_nil ⟨(Nat.le_of_ble_eq_true rfl), (fin ⟨_, rfl⟩)⟩)))⟩)))))))))))⟩)))))))))))⟩)))))))))))⟩))))))))))))⟩⟩))))
theorem tt_aroundL {rects0 : (List (Int × Int × Int × Int))} {r : (Option (Int × Int × Int × Int))} (h : t_aroundL rects0 = some r) : m_aroundL [(eL (e4 eI eI eI eI)) rects0] = some (.ret ((eO (e4 eI eI eI eI)) r)) := run_P (ε := [.dat ((eL (e4 eI eI eI eI)) rects0), .un]) rfl (tq_aroundL rects0) h
def bd_around_places_1 : Mo D := (mOp gIx (mVar 3) (pur (.int 0)))
def bd_around_places_2 : Mo (List D) := (mLc [3] (bnd (mVar 0) fun d => lft (tupOf d)) (gdName 3) (pur true) bd_around_places_1)
def bd_around_places_3 : Mo D := (mOp gIx (mVar 3) (pur (.int 1)))
def bd_around_places_4 : Mo (List D) := (mLc [3] (bnd (mVar 0) fun d => lft (tupOf d)) (gdName 3) (pur true) bd_around_places_3)
def g_around_places : MoS := (mSeq (mIfS (mNot (mTruth (mVar 0))) (mRet (pur .non)) mNil)
  (mSeq (mSetO 1 bd_around_places_2)
  (mSeq (mSetO 2 bd_around_places_4)
  (mPre [1, 2] (mRet (mTup (mCons (mCall (gOne gMinL) (mCons (mVar 1) (pur []))) (mCons (mCall (gOne gMinL) (mCons (mVar 2) (pur []))) (mCons (mOp gAdd (mCall (gOne gMaxL) (mCons (mVar 1) (pur []))) (pur (.int 1))) (mCons (mOp gAdd (mCall (gOne gMaxL) (mCons (mVar 2) (pur []))) (pur (.int 1))) (pur [])))))))))))
def m_around_places : List D → Option Ans := runP 4 g_around_places
theorem ok_around_places (T : Txt P w K mg) : FnOk P w K mg base (CXX P w) 1 T.f_around_places T.d_around_places ["places"] (SpP K 1 m_around_places) := by
  exact fn_P (g := g_around_places) T.F_around_places sc_around_places (fun cdv A outer s H E C hA hr tk => (ss_cons (st_if (te_not (te_seq (ev_var 0 (pv 0)))) (ss_one (st_ret ev_non)) ss_nil)
      (ss_cons (st_lc (i := 1) (own := [("place", 3)]) rfl sc_around_places.nd rfl rfl (sw_true rfl rfl rfl (by decide +kernel)) (ei_tup (ev_var 0 (pv 0))) (blkOk_by (own := [("place", 3)]) (N := N_around_places) (sc := defScope s_around_places) (by decide +kernel)) (fun _ _ _ _ _ => (pg_name (i := 3) sc_around_places.nd rfl (by first | exact Or.inl rfl | exact Or.inr rfl))) (sg_name (i := 3)) (fun _ _ _ _ _ => pt_nilD) (fun _ _ _ _ _ => (ev_item (fun _ _ => rfl) (ev_var 3 (pv 3)) ev_int)) (by decide) (by decide))
      (ss_cons (st_lc (i := 2) (own := [("place", 3)]) rfl sc_around_places.nd rfl rfl (sw_true rfl rfl rfl (by decide +kernel)) (ei_tup (ev_var 0 (pv 0))) (blkOk_by (own := [("place", 3)]) (N := N_around_places) (sc := defScope s_around_places) (by decide +kernel)) (fun _ _ _ _ _ => (pg_name (i := 3) sc_around_places.nd rfl (by first | exact Or.inl rfl | exact Or.inr rfl))) (sg_name (i := 3)) (fun _ _ _ _ _ => pt_nilD) (fun _ _ _ _ _ => (ev_item (fun _ _ => rfl) (ev_var 3 (pv 3)) ev_int)) (by decide) (by decide))
      (ss_one (st_pre [1, 2] (st_ret (ev_tup (ea_cons (ev_cb vc_minL (ea_cons (ev_var 1 (pv 1)) ea_nil) fun _ p => pe_callB (cr_min rfl) (by rfl) T.z_min (by decide +kernel) p) (ea_cons (ev_cb vc_minL (ea_cons (ev_var 2 (pv 2)) ea_nil) fun _ p => pe_callB (cr_min rfl) (by rfl) T.z_min (by decide +kernel) p) (ea_cons (ev_add (ev_cb vc_maxL (ea_cons (ev_var 1 (pv 1)) ea_nil) fun _ p => pe_callB (cr_max rfl) (by rfl) T.z_max (by decide +kernel) p) ev_int) (ea_cons (ev_add (ev_cb vc_maxL (ea_cons (ev_var 2 (pv 2)) ea_nil) fun _ p => pe_callB (cr_max rfl) (by rfl) T.z_max (by decide +kernel) p) ev_int) ea_nil)))))))))))) (fun _ _ _ h => h)
@[irreducible] noncomputable def u_around_places_1  : Pl → Option Int := fun (a1 : Pl) =>
some a1.1
@[irreducible] noncomputable def u_around_places_2  : Pl → Option Int := fun (a3 : Pl) =>
some a3.2.1
@[irreducible] noncomputable def t_around_places (places0 : (List Pl)) : Option (Option (Int × Int × Int × Int)) :=
if (!((!places0.isEmpty))) = true then
some ((none : (Option (Int × Int × Int × Int))))
else
(capG places0.length).bind fun _ => (mapO u_around_places_1 places0).bind fun cs2 =>
(capG places0.length).bind fun _ => (mapO u_around_places_2 places0).bind fun cs4 =>
(minG cs2).bind fun m5 =>
(minG cs4).bind fun m6 =>
(maxG cs2).bind fun m7 =>
(maxG cs4).bind fun m8 =>
some ((some ((m5, m6, (m7 + (1 : Int)), (m8 + (1 : Int))))))
theorem tq_around_places (places0 : (List Pl)) : QS (RP (eO (e4 eI eI eI eI))) g_around_places [.dat ((eT ePl) places0), .un, .un, .un] (t_around_places places0) := by unfold t_around_places; exact (qs_if (qc_not (qc_truthM (qc_var rfl ⟨_, _, _, rfl, ⟨_, _, rfl, (qs_end (qs_ret (qc_pur (fin (nx_rt ⟨_, rfl⟩))))), (qs_skip (qs_setO (qc_lcA (qc_bnd (qc_var rfl (qc_lft (qt_tot _ rfl ⟨_, _, places0, ePl, u_around_places_1, eI, _, rfl, rfl, rfl, rfl, (fun a1 => ⟨_, rfl, rfl, by unfold u_around_places_1; exact (qc_op (qc_var rfl (qc_pur (qt_tot (eI a1.1) (pl0 _) ⟨_, rfl, rfl, rfl⟩))))⟩), fun cs2 => (qs_fr (ε' := [.dat ((eT ePl) places0), .own (List.map eI cs2), .un, .un]) rfl (qs_setO (qc_lcA (qc_bnd (qc_var rfl (qc_lft (qt_tot _ rfl ⟨_, _, places0, ePl, u_around_places_2, eI, _, rfl, rfl, rfl, rfl, (fun a3 => ⟨_, rfl, rfl, by unfold u_around_places_2; exact (qc_op (qc_var rfl (qc_pur (qt_tot (eI a3.2.1) (pl1 _) ⟨_, rfl, rfl, rfl⟩))))⟩), fun cs4 => (qs_fr (ε' := [.dat ((eT ePl) places0), .own (List.map eI cs2), .own (List.map eI cs4), .un]) rfl (qs_pre1 (qs_fr (ε' := [.dat ((eT ePl) places0), .dat ((eL eI) cs2), .dat ((eL eI) cs4), .un]) rfl (qs_ret (qc_tup (qc_cons (qc_call (qc_cons (qc_var rfl (qc_nil (qt_par (t := minG cs2) eI (fun _ h => minL_ok (xs := cs2) h) fun m5 => (qc_cons (qc_call (qc_cons (qc_var rfl (qc_nil (qt_par (t := minG cs4) eI (fun _ h => minL_ok (xs := cs4) h) fun m6 => (qc_cons (qc_op (qc_call (qc_cons (qc_var rfl (qc_nil (qt_par (t := maxG cs2) eI (fun _ h => maxL_ok (xs := cs2) h) fun m7 => (qc_pur (qt_tot (eI ((m7 + (1 : Int)))) rfl (qc_cons (qc_op (qc_call (qc_cons (qc_var rfl (qc_nil (qt_par (t := maxG cs4) eI (fun _ h => maxL_ok (xs := cs4) h) fun m8 => (qc_pur (qt_tot (eI ((m8 + (1 : Int)))) rfl (qc_nil ⟨(Nat.le_of_ble_eq_true rfl), (fin ⟨_, rfl⟩)⟩))))))))))))))))))))))))))))))))))))⟩)))))))⟩)))))))⟩⟩))))
theorem tt_around_places {places0 : (List Pl)} {r : (Option (Int × Int × Int × Int))} (h : t_around_places places0 = some r) : m_around_places [(eT ePl) places0] = some (.ret ((eO (e4 eI eI eI eI)) r)) := run_P (ε := [.dat ((eT ePl) places0), .un, .un, .un]) rfl (tq_around_places places0) h
def bd_around_placesL_1 : Mo D := (mOp gIx (mVar 3) (pur (.int 0)))
def bd_around_placesL_2 : Mo (List D) := (mLc [3] (bnd (mVar 0) fun d => lft (lstOf d)) (gdName 3) (pur true) bd_around_placesL_1)
def bd_around_placesL_3 : Mo D := (mOp gIx (mVar 3) (pur (.int 1)))
def bd_around_placesL_4 : Mo (List D) := (mLc [3] (bnd (mVar 0) fun d => lft (lstOf d)) (gdName 3) (pur true) bd_around_placesL_3)
def g_around_placesL : MoS := (mSeq (mIfS (mNot (mTruth (mVar 0))) (mRet (pur .non)) mNil)
  (mSeq (mSetO 1 bd_around_placesL_2)
  (mSeq (mSetO 2 bd_around_placesL_4)
  (mPre [1, 2] (mRet (mTup (mCons (mCall (gOne gMinL) (mCons (mVar 1) (pur []))) (mCons (mCall (gOne gMinL) (mCons (mVar 2) (pur []))) (mCons (mOp gAdd (mCall (gOne gMaxL) (mCons (mVar 1) (pur []))) (pur (.int 1))) (mCons (mOp gAdd (mCall (gOne gMaxL) (mCons (mVar 2) (pur []))) (pur (.int 1))) (pur [])))))))))))
def m_around_placesL : List D → Option Ans := runP 4 g_around_placesL
theorem ok_around_placesL (T : Txt P w K mg) : FnOk P w K mg base (CXX P w) 1 T.f_around_places T.d_around_places ["places"] (SpP K 1 m_around_placesL) := by
  exact fn_P (g := g_around_placesL) T.F_around_places sc_around_places (fun cdv A outer s H E C hA hr tk => (ss_cons (st_if (te_not (te_seq (ev_var 0 (pv 0)))) (ss_one (st_ret ev_non)) ss_nil)
      (ss_cons (st_lc (i := 1) (own := [("place", 3)]) rfl sc_around_places.nd rfl rfl (sw_true rfl rfl rfl (by decide +kernel)) (ei_list (ev_var 0 (pv 0))) (blkOk_by (own := [("place", 3)]) (N := N_around_places) (sc := defScope s_around_places) (by decide +kernel)) (fun _ _ _ _ _ => (pg_name (i := 3) sc_around_places.nd rfl (by first | exact Or.inl rfl | exact Or.inr rfl))) (sg_name (i := 3)) (fun _ _ _ _ _ => pt_nilD) (fun _ _ _ _ _ => (ev_item (fun _ _ => rfl) (ev_var 3 (pv 3)) ev_int)) (by decide) (by decide))
      (ss_cons (st_lc (i := 2) (own := [("place", 3)]) rfl sc_around_places.nd rfl rfl (sw_true rfl rfl rfl (by decide +kernel)) (ei_list (ev_var 0 (pv 0))) (blkOk_by (own := [("place", 3)]) (N := N_around_places) (sc := defScope s_around_places) (by decide +kernel)) (fun _ _ _ _ _ => (pg_name (i := 3) sc_around_places.nd rfl (by first | exact Or.inl rfl | exact Or.inr rfl))) (sg_name (i := 3)) (fun _ _ _ _ _ => pt_nilD) (fun _ _ _ _ _ => (ev_item (fun _ _ => rfl) (ev_var 3 (pv 3)) ev_int)) (by decide) (by decide))
      (ss_one (st_pre [1, 2] (st_ret (ev_tup (ea_cons (ev_cb vc_minL (ea_cons (ev_var 1 (pv 1)) ea_nil) fun _ p => pe_callB (cr_min rfl) (by rfl) T.z_min (by decide +kernel) p) (ea_cons (ev_cb vc_minL (ea_cons (ev_var 2 (pv 2)) ea_nil) fun _ p => pe_callB (cr_min rfl) (by rfl) T.z_min (by decide +kernel) p) (ea_cons (ev_add (ev_cb vc_maxL (ea_cons (ev_var 1 (pv 1)) ea_nil) fun _ p => pe_callB (cr_max rfl) (by rfl) T.z_max (by decide +kernel) p) ev_int) (ea_cons (ev_add (ev_cb vc_maxL (ea_cons (ev_var 2 (pv 2)) ea_nil) fun _ p => pe_callB (cr_max rfl) (by rfl) T.z_max (by decide +kernel) p) ev_int) ea_nil)))))))))))) (fun _ _ _ h => h)
@[irreducible] noncomputable def u_around_placesL_1  : Pl → Option Int := fun (a1 : Pl) =>
some a1.1
@[irreducible] noncomputable def u_around_placesL_2  : Pl → Option Int := fun (a3 : Pl) =>
some a3.2.1
@[irreducible] noncomputable def t_around_placesL (places0 : (List Pl)) : Option (Option (Int × Int × Int × Int)) :=
if (!((!places0.isEmpty))) = true then
some ((none : (Option (Int × Int × Int × Int))))
else
(capG places0.length).bind fun _ => (mapO u_around_placesL_1 places0).bind fun cs2 =>
(capG places0.length).bind fun _ => (mapO u_around_placesL_2 places0).bind fun cs4 =>
(minG cs2).bind fun m5 =>
(minG cs4).bind fun m6 =>
(maxG cs2).bind fun m7 =>
(maxG cs4).bind fun m8 =>
some ((some ((m5, m6, (m7 + (1 : Int)), (m8 + (1 : Int))))))
theorem tq_around_placesL (places0 : (List Pl)) : QS (RP (eO (e4 eI eI eI eI))) g_around_placesL [.dat ((eL ePl) places0), .un, .un, .un] (t_around_placesL places0) := by unfold t_around_placesL; exact (qs_if (qc_not (qc_truthM (qc_var rfl ⟨_, _, _, rfl, ⟨_, _, rfl, (qs_end (qs_ret (qc_pur (fin (nx_rt ⟨_, rfl⟩))))), (qs_skip (qs_setO (qc_lcA (qc_bnd (qc_var rfl (qc_lft (qt_tot _ rfl ⟨_, _, places0, ePl, u_around_placesL_1, eI, _, rfl, rfl, rfl, rfl, (fun a1 => ⟨_, rfl, rfl, by unfold u_around_placesL_1; exact (qc_op (qc_var rfl (qc_pur (qt_tot (eI a1.1) (pl0 _) ⟨_, rfl, rfl, rfl⟩))))⟩), fun cs2 => (qs_fr (ε' := [.dat ((eL ePl) places0), .own (List.map eI cs2), .un, .un]) rfl (qs_setO (qc_lcA (qc_bnd (qc_var rfl (qc_lft (qt_tot _ rfl ⟨_, _, places0, ePl, u_around_placesL_2, eI, _, rfl, rfl, rfl, rfl, (fun a3 => ⟨_, rfl, rfl, by unfold u_around_placesL_2; exact (qc_op (qc_var rfl (qc_pur (qt_tot (eI a3.2.1) (pl1 _) ⟨_, rfl, rfl, rfl⟩))))⟩), fun cs4 => (qs_fr (ε' := [.dat ((eL ePl) places0), .own (List.map eI cs2), .own (List.map eI cs4), .un]) rfl (qs_pre1 (qs_fr (ε' := [.dat ((eL ePl) places0), .dat ((eL eI) cs2), .dat ((eL eI) cs4), .un]) rfl (qs_ret (qc_tup (qc_cons (qc_call (qc_cons (qc_var rfl (qc_nil (qt_par (t := minG cs2) eI (fun _ h => minL_ok (xs := cs2) h) fun m5 => (qc_cons (qc_call (qc_cons (qc_var rfl (qc_nil (qt_par (t := minG cs4) eI (fun _ h => minL_ok (xs := cs4) h) fun m6 => (qc_cons (qc_op (qc_call (qc_cons (qc_var rfl (qc_nil (qt_par (t := maxG cs2) eI (fun _ h => maxL_ok (xs := cs2) h) fun m7 => (qc_pur (qt_tot (eI ((m7 + (1 : Int)))) rfl (qc_cons (qc_op (qc_call (qc_cons (qc_var rfl (qc_nil (qt_par (t := maxG cs4) eI (fun _ h => maxL_ok (xs := cs4) h) fun m8 => (qc_pur (qt_tot (eI ((m8 + (1 : Int)))) rfl (qc_nil ⟨(Nat.le_of_ble_eq_true rfl), (fin ⟨_, rfl⟩)⟩))))))))))))))))))))))))))))))))))))⟩)))))))⟩)))))))⟩⟩))))
theorem tt_around_placesL {places0 : (List Pl)} {r : (Option (Int × Int × Int × Int))} (h : t_around_placesL places0 = some r) : m_around_placesL [(eL ePl) places0] = some (.ret ((eO (e4 eI eI eI eI)) r)) := run_P (ε := [.dat ((eL ePl) places0), .un, .un, .un]) rfl (tq_around_placesL places0) h
def g_holds : MoS := (mSeq (mAsg (gdTup [3, 4, 5, 6]) (mVar 0))
  (mRet (mAndV (mChain gLe gLt (mVar 3) (mVar 1) (mVar 5)) (mChain gLe gLt (mVar 4) (mVar 2) (mVar 6)))))
def m_holds : List D → Option Ans := runP 7 g_holds
theorem ok_holds (T : Txt P w K mg) : FnOk P w K mg base (CXX P w) 1 T.f_holds T.d_holds ["rect", "x", "y"] (SpP K 3 m_holds) := by
  exact fn_P (g := g_holds) T.F_holds sc_holds (fun cdv A outer s H E C hA hr tk => (ss_cons (st_asgG (tgt := .Constant .none 0 ⟨0, 0, 0, 0⟩) (fun _ p => ps_asg p (pg_tup (n := 4) rfl (pgs_cons (pg_name (i := 3) sc_holds.nd rfl (by first | exact Or.inl rfl | exact Or.inr rfl)) (pgs_cons (pg_name (i := 4) sc_holds.nd rfl (by first | exact Or.inl rfl | exact Or.inr rfl)) (pgs_cons (pg_name (i := 5) sc_holds.nd rfl (by first | exact Or.inl rfl | exact Or.inr rfl)) (pgs_cons (pg_name (i := 6) sc_holds.nd rfl (by first | exact Or.inl rfl | exact Or.inr rfl)) pgs_nil)))))) (sg_tup (is := [3, 4, 5, 6]) (by rfl)) (ev_var 0 (pv 0)))
      (ss_one (st_ret (ev_and (ev_chain op_le op_lt (vop_I0 fun _ _ _ => .bl _) (vop_I0 fun _ _ _ => .bl _) (ev_var 3 (pv 3)) (ev_var 1 (pv 1)) (ev_var 5 (pv 5)) fun _ _ _ p q r => pe_chain op_le op_lt p q r) (ev_one (ev_chain op_le op_lt (vop_I0 fun _ _ _ => .bl _) (vop_I0 fun _ _ _ => .bl _) (ev_var 4 (pv 4)) (ev_var 2 (pv 2)) (ev_var 6 (pv 6)) fun _ _ _ p q r => pe_chain op_le op_lt p q r))))))) (fun _ _ _ h => h)
@[irreducible] noncomputable def t_holds (rect0 : (Int × Int × Int × Int)) (x0 : Int) (y0 : Int) : Option Bool :=
some ((((decide (rect0.1 ≤ x0)) && (decide (x0 < rect0.2.2.1))) && ((decide (rect0.2.1 ≤ y0)) && (decide (y0 < rect0.2.2.2)))))
theorem tq_holds (rect0 : (Int × Int × Int × Int)) (x0 : Int) (y0 : Int) : QS (RP eB) g_holds [.dat ((e4 eI eI eI eI) rect0), .dat (eI x0), .dat (eI y0), .un, .un, .un, .un] (t_holds rect0 x0 y0) := by unfold t_holds; exact (qs_asg (qc_var rfl ⟨_, rfl, qs_fr (ε' := [.dat ((e4 eI eI eI eI) rect0), .dat (eI x0), .dat (eI y0), .dat (eI rect0.1), .dat (eI rect0.2.1), .dat (eI rect0.2.2.1), .dat (eI rect0.2.2.2)]) rfl (qs_ret (qc_andV (qc_chain (qc_var rfl (qc_var rfl ⟨_, _, _, rfl, (fun _ => (qc_var rfl ⟨rfl, rfl, rfl⟩)), rfl, ⟨_, _, rfl, (fun _ => (qc_chain (qc_var rfl (qc_var rfl ⟨_, _, _, rfl, (fun _ => (qc_var rfl ⟨rfl, rfl, rfl⟩)), rfl, ⟨rfl, rfl, rfl⟩⟩)))), (fin ⟨_, rfl⟩)⟩⟩)))))⟩))
theorem tt_holds {rect0 : (Int × Int × Int × Int)} {x0 : Int} {y0 : Int} {r : Bool} (h : t_holds rect0 x0 y0 = some r) : m_holds [(e4 eI eI eI eI) rect0, eI x0, eI y0] = some (.ret (eB r)) := run_P (ε := [.dat ((e4 eI eI eI eI) rect0), .dat (eI x0), .dat (eI y0), .un, .un, .un, .un]) rfl (tq_holds rect0 x0 y0) h
def bd_cut_1 : Mo D := (mSl gSlT (mVar 9) (bnd (mOp DL.gSub (mVar 3) (mVar 7)) fun d => lft ((asI d).map some)) (bnd (mOp DL.gSub (mVar 5) (mVar 7)) fun d => lft ((asI d).map some)))
def bd_cut_2 : Mo (List D) := (mLc [9] (bnd (mSl gSlT (mVar 0) (bnd (mOp DL.gSub (mVar 4) (mVar 8)) fun d => lft ((asI d).map some)) (bnd (mOp DL.gSub (mVar 6) (mVar 8)) fun d => lft ((asI d).map some))) fun d => lft (tupOf d)) (gdName 9) (pur true) bd_cut_1)
def g_cut : MoS := (mSeq (mAsg (gdTup [3, 4, 5, 6]) (mVar 2))
  (mSeq (mAsg (gdTup [7, 8]) (mTup (mCons (mOp gIx (mVar 1) (pur (.int 0))) (mCons (mOp gIx (mVar 1) (pur (.int 1))) (pur [])))))
  (mRet (mCall (gOne gTuple) (mCons (mFz bd_cut_2) (pur []))))))
def m_cut : List D → Option Ans := runP 10 g_cut
theorem ok_cut (T : Txt P w K mg) : FnOk P w K mg base (CXX P w) 1 T.f_cut T.d_cut ["block", "rect", "part"] (SpP K 3 m_cut) := by
  exact fn_P (g := g_cut) T.F_cut sc_cut (fun cdv A outer s H E C hA hr tk => (ss_cons (st_asgG (tgt := .Constant .none 0 ⟨0, 0, 0, 0⟩) (fun _ p => ps_asg p (pg_tup (n := 4) rfl (pgs_cons (pg_name (i := 3) sc_cut.nd rfl (by first | exact Or.inl rfl | exact Or.inr rfl)) (pgs_cons (pg_name (i := 4) sc_cut.nd rfl (by first | exact Or.inl rfl | exact Or.inr rfl)) (pgs_cons (pg_name (i := 5) sc_cut.nd rfl (by first | exact Or.inl rfl | exact Or.inr rfl)) (pgs_cons (pg_name (i := 6) sc_cut.nd rfl (by first | exact Or.inl rfl | exact Or.inr rfl)) pgs_nil)))))) (sg_tup (is := [3, 4, 5, 6]) (by rfl)) (ev_var 2 (pv 2)))
      (ss_cons (st_asgG (tgt := .Constant .none 0 ⟨0, 0, 0, 0⟩) (fun _ p => ps_asg p (pg_tup (n := 2) rfl (pgs_cons (pg_name (i := 7) sc_cut.nd rfl (by first | exact Or.inl rfl | exact Or.inr rfl)) (pgs_cons (pg_name (i := 8) sc_cut.nd rfl (by first | exact Or.inl rfl | exact Or.inr rfl)) pgs_nil)))) (sg_tup (is := [7, 8]) (by rfl)) (ev_tup (ea_cons (ev_item (fun _ _ => rfl) (ev_var 1 (pv 1)) ev_int) (ea_cons (ev_item (fun _ _ => rfl) (ev_var 1 (pv 1)) ev_int) ea_nil))))
      (ss_one (st_ret (ev_cb vc_tuple (ea_cons (ev_lc (own := [("row", 9)]) rfl sc_cut.nd (ei_tup (ev_sl sl_tupA vsl_tup (ev_var 0 (pv 0)) (eo_some (ev_sub (ev_var 4 (pv 4)) (ev_var 8 (pv 8)))) (eo_some (ev_sub (ev_var 6 (pv 6)) (ev_var 8 (pv 8)))))) (blkOk_by (own := [("row", 9)]) (N := N_cut) (sc := defScope s_cut) (by decide +kernel)) (fun _ _ _ _ _ => (pg_name (i := 9) sc_cut.nd rfl (by first | exact Or.inl rfl | exact Or.inr rfl))) (sg_name (i := 9)) (fun _ _ _ _ _ => pt_nilD) (fun _ _ _ _ _ => (ev_sl sl_tupA vsl_tup (ev_var 9 (pv 9)) (eo_some (ev_sub (ev_var 3 (pv 3)) (ev_var 7 (pv 7)))) (eo_some (ev_sub (ev_var 5 (pv 5)) (ev_var 7 (pv 7)))))) (by decide) (by decide)).frz ea_nil) fun _ p => pe_callTy call_tuple_of (by rfl) T.z_tuple (by decide +kernel) p)))))) (fun _ _ _ h => h)
@[irreducible] noncomputable def u_cut_1 (part0 : (Int × Int × Int × Int)) (u1 : (Int × Int)) : (List D) → Option (List D) := fun (a2 : (List D)) =>
some ((cutL a2 (some ((part0.1 - u1.1))) (some ((part0.2.2.1 - u1.1)))))
@[irreducible] noncomputable def t_cut (block0 : (List (List D))) (rect0 : (Int × Int × Int × Int)) (part0 : (Int × Int × Int × Int)) : Option (List (List D)) :=
letO ((rect0.1, rect0.2.1) : (Int × Int)) fun u1 =>
(capG ((cutL block0 (some ((part0.2.1 - u1.2))) (some ((part0.2.2.2 - u1.2))))).length).bind fun _ => (mapO (u_cut_1 part0 u1) ((cutL block0 (some ((part0.2.1 - u1.2))) (some ((part0.2.2.2 - u1.2)))))).bind fun cs3 =>
some cs3
theorem tq_cut (block0 : (List (List D))) (rect0 : (Int × Int × Int × Int)) (part0 : (Int × Int × Int × Int)) : QS (RP (eT (eT eD))) g_cut [.dat ((eT (eT eD)) block0), .dat ((e4 eI eI eI eI) rect0), .dat ((e4 eI eI eI eI) part0), .un, .un, .un, .un, .un, .un, .un] (t_cut block0 rect0 part0) := by unfold t_cut; exact (qs_asg (qc_var rfl ⟨_, rfl, qs_fr (ε' := [.dat ((eT (eT eD)) block0), .dat ((e4 eI eI eI eI) rect0), .dat ((e4 eI eI eI eI) part0), .dat (eI part0.1), .dat (eI part0.2.1), .dat (eI part0.2.2.1), .dat (eI part0.2.2.2), .un, .un, .un]) rfl (qs_asg (qc_tup (qc_cons (qc_op (qc_var rfl (qc_pur (qt_tot (eI rect0.1) rfl (qc_cons (qc_op (qc_var rfl (qc_pur (qt_tot (eI rect0.2.1) rfl (qc_nil ⟨(Nat.le_of_ble_eq_true rfl), ⟨_, rfl, qs_let (v := (rect0.1, rect0.2.1)) (fun u1 => [.dat ((eT (eT eD)) block0), .dat ((e4 eI eI eI eI) rect0), .dat ((e4 eI eI eI eI) part0), .dat (eI part0.1), .dat (eI part0.2.1), .dat (eI part0.2.2.1), .dat (eI part0.2.2.2), .dat (eI u1.1), .dat (eI u1.2), .un]) fun u1 => (qs_ret (qc_call (qc_cons (qc_fz (qc_lcA (qc_bnd (qc_sl (qc_var rfl (qc_lo (qc_op (qc_var rfl (qc_var rfl (qt_tot (eI ((part0.2.1 - u1.2))) rfl ⟨_, rfl, (qc_lo (qc_op (qc_var rfl (qc_var rfl (qt_tot (eI ((part0.2.2.2 - u1.2))) rfl ⟨_, rfl, (qt_tot ((eT (eT eD)) ((cutL block0 (some ((part0.2.1 - u1.2))) (some ((part0.2.2.2 - u1.2)))))) (slT_eq (e := (eT eD)) block0 _ _) (qc_lft (qt_tot _ rfl ⟨_, _, (cutL block0 (some ((part0.2.1 - u1.2))) (some ((part0.2.2.2 - u1.2)))), (eT eD), (u_cut_1 part0 u1), (eT eD), _, rfl, rfl, rfl, rfl, (fun a2 => ⟨_, rfl, rfl, by unfold u_cut_1; exact (qc_sl (qc_var rfl (qc_lo (qc_op (qc_var rfl (qc_var rfl (qt_tot (eI ((part0.1 - u1.1))) rfl ⟨_, rfl, (qc_lo (qc_op (qc_var rfl (qc_var rfl (qt_tot (eI ((part0.2.2.1 - u1.1))) rfl ⟨_, rfl, (qt_tot ((eT eD) ((cutL a2 (some ((part0.1 - u1.1))) (some ((part0.2.2.1 - u1.1)))))) (slT_eq (e := eD) a2 _ _) ⟨_, rfl, rfl, rfl⟩)⟩)))))⟩)))))))⟩), fun cs3 => (qc_nil (qt_tot ((eT (eT eD)) cs3) rfl (fin ⟨_, rfl⟩)))⟩)))⟩)))))⟩)))))))))))))⟩⟩)))))))))))))⟩))
theorem tt_cut {block0 : (List (List D))} {rect0 : (Int × Int × Int × Int)} {part0 : (Int × Int × Int × Int)} {r : (List (List D))} (h : t_cut block0 rect0 part0 = some r) : m_cut [(eT (eT eD)) block0, (e4 eI eI eI eI) rect0, (e4 eI eI eI eI) part0] = some (.ret ((eT (eT eD)) r)) := run_P (ε := [.dat ((eT (eT eD)) block0), .dat ((e4 eI eI eI eI) rect0), .dat ((e4 eI eI eI eI) part0), .un, .un, .un, .un, .un, .un, .un]) rfl (tq_cut block0 rect0 part0) h
def g_law_cell : MoS := (mSeq (mIfS (mB (mOp gLt (mVar 1) (mLenN 0))) (mRet (mCall (gOne gInt) (mCons (mOp gIx (mVar 0) (mVar 1)) (pur [])))) mNil)
  (mRet (pur (.int 0))))
def m_law_cell : List D → Option Ans := runP 2 g_law_cell
theorem ok_law_cell (T : Txt P w K mg) : FnOk P w K mg base (CXX P w) 1 T.f_law_cell T.d_law_cell ["script", "k"] (SpP K 2 m_law_cell) := by
  exact fn_P (g := g_law_cell) T.F_law_cell sc_law_cell (fun cdv A outer s H E C hA hr tk => (ss_cons (st_if (te_cmp op_lt (nomark _) (vop_I0 fun _ _ _ => .bl _) (ev_var 1 (pv 1)) (ev_lenN (i := 0) (pe_callB call_len (by rfl) T.z_len PySem.boot_len (pa_cons (pv 0) pa_nil)))) (ss_one (st_ret (ev_cb vc_int (ea_cons (ev_item (fun _ _ => rfl) (ev_var 0 (pv 0)) (ev_var 1 (pv 1))) ea_nil) fun _ p => pe_callTy call_int1 (by rfl) T.z_int (by decide +kernel) p))) ss_nil)
      (ss_one (st_ret ev_int)))) (fun _ _ _ h => h)
@[irreducible] noncomputable def t_law_cell (script0 : (List Int)) (k0 : Int) : Option Int :=
if (decide (k0 < (script0.length : Int))) = true then
(atI script0 k0).bind fun it1 =>
some it1
else
some ((0 : Int))
theorem tq_law_cell (script0 : (List Int)) (k0 : Int) : QS (RP eI) g_law_cell [.dat ((eR eI) script0), .dat (eI k0)] (t_law_cell script0 k0) := by unfold t_law_cell; exact (qs_if (qc_B (qc_op (qc_var rfl (qc_lenN_datM rfl rfl (qt_tot (eB ((decide (k0 < (script0.length : Int))))) rfl ⟨_, rfl, ⟨_, _, rfl, (qs_end (qs_ret (qc_call (qc_cons (qc_op (qc_var rfl (qc_var rfl (qt_par (t := atI script0 k0) eI (fun _ h => ixR_ok (e := eI) (xs := script0) h) fun it1 => (qc_nil (qt_tot (eI it1) rfl (fin (nx_rt ⟨_, rfl⟩)))))))))))), (qs_skip (qs_ret (qc_pur (fin ⟨_, rfl⟩))))⟩⟩))))))
theorem tt_law_cell {script0 : (List Int)} {k0 : Int} {r : Int} (h : t_law_cell script0 k0 = some r) : m_law_cell [(eR eI) script0, eI k0] = some (.ret (eI r)) := run_P (ε := [.dat ((eR eI) script0), .dat (eI k0)]) rfl (tq_law_cell script0 k0) h
def bd_law_draws_1 : MoS := (mPost [] [6] (mSeq (mIfS (mB (mOp gEqS (mVar 5) (pur (.int 0)))) (fun ε => some (.bk ε)) mNil)
  (mSeq (mApp 4 (mOp gMod (mCall (gOne gInt) (mCons (mVar 5) (pur []))) (pur (.int 9973))))
  (mSet 5 (mOp gDiv (mVar 5) (pur (.int 9973)))))))
def bd_law_draws_2 : MoS := (mPost [] [6] (mSeq (mSet 7 (mOp gMod (mCall (gOne gInt) (mCons (mOp gAdd (mOp gAdd (mOp gMul (mVar 7) (mVar 7)) (mOp gMul (pur (.int 48271)) (mOp gAdd (mVar 6) (pur (.int 1))))) (pur (.int 12345))) (pur []))) (pur (.int 999983))))
  (mApp 4 (mOp gMod (mCall (gOne gInt) (mCons (mOp gAdd (mOp gMod (mCall (gOne gInt) (mCons (mOp gMul (mVar 7) (mVar 7)) (pur []))) (pur (.int 1000003))) (mOp gMul (pur (.int 69621)) (mVar 6))) (pur []))) (pur (.int 9973))))))
def g_law_draws : MoS := (mSeq (mSet 3 (pur (.int 0)))
  (mSeq (mPost [] [] (mIfS (mB (mOp gLt (mVar 1) (mLenN 0))) (mSet 3 (mCall (gOne gAbs) (mCons (mCall (gOne gInt) (mCons (mOp gIx (mVar 0) (mVar 1)) (pur []))) (pur [])))) mNil))
  (mSeq (mSetO 4 (mLstO (pur [])))
  (mSeq (mSet 5 (mVar 3))
  (mSeq (mPost [] [] (mIfS (mB (mOp gGe (mVar 3) (mOp gPow (pur (.int 10)) (pur (.int 18))))) (mFor (bnd (mCons (mVar 2) (pur [])) fun ds => lft (rng1 ds)) (gdName 6) bd_law_draws_1) mNil))
  (mSeq (mSet 7 (mOp gAdd (mOp gAdd (mOp gMod (mCall (gOne gInt) (mCons (mVar 3) (pur []))) (pur (.int 1000003))) (mOp gMul (pur (.int 611)) (mVar 1))) (pur (.int 17))))
  (mSeq (mFor (bnd (mCons (mOp DL.gSub (mVar 2) (mLenN 4)) (pur [])) fun ds => lft (rng1 ds)) (gdName 6) bd_law_draws_2)
  (mPre [4] (mRet (mVar 4))))))))))
def m_law_draws : List D → Option Ans := runP 8 g_law_draws
theorem ok_law_draws (T : Txt P w K mg) : FnOk P w K mg base (CXX P w) 1 T.f_law_draws T.d_law_draws ["script", "at", "count"] (SpP K 3 m_law_draws) := by
  exact fn_P (g := g_law_draws) T.F_law_draws sc_law_draws (fun cdv A outer s H E C hA hr tk => (ss_cons (st_set (fun _ p => ps_set (i := 3) sc_law_draws.nd rfl (by first | exact Or.inl rfl | exact Or.inr rfl) p) ev_int)
      (ss_cons (st_post [] [] (st_if (te_cmp op_lt (nomark _) (vop_I0 fun _ _ _ => .bl _) (ev_var 1 (pv 1)) (ev_lenN (i := 0) (pe_callB call_len (by rfl) T.z_len PySem.boot_len (pa_cons (pv 0) pa_nil)))) (ss_one (st_set (fun _ p => ps_set (i := 3) sc_law_draws.nd rfl (by first | exact Or.inl rfl | exact Or.inr rfl) p) (ev_cb vc_abs (ea_cons (ev_cb vc_int (ea_cons (ev_item (fun _ _ => rfl) (ev_var 0 (pv 0)) (ev_var 1 (pv 1))) ea_nil) fun _ p => pe_callTy call_int1 (by rfl) T.z_int (by decide +kernel) p) ea_nil) fun _ p => pe_callB call_abs (by rfl) T.z_abs (by decide +kernel) p))) ss_nil))
      (ss_cons (st_setO (fun _ p => ps_set (i := 4) sc_law_draws.nd rfl (by first | exact Or.inl rfl | exact Or.inr rfl) p) (eo_lst ea_nil))
      (ss_cons (st_set (fun _ p => ps_set (i := 5) sc_law_draws.nd rfl (by first | exact Or.inl rfl | exact Or.inr rfl) p) (ev_var 3 (pv 3)))
      (ss_cons (st_post [] [] (st_if (te_cmp op_ge (nomark _) (vop_I0 fun _ _ _ => .bl _) (ev_var 3 (pv 3)) (ev_pow ev_int ev_int)) (ss_one (st_for (ei_range1 (ea_cons (ev_var 2 (pv 2)) ea_nil) fun _ p => pi_range1 (by rfl) T.z_range p) (ss_post [] [6] (ss_cons (st_if (te_cmp op_eq (nomark _) vop_eqS (ev_var 5 (pv 5)) ev_int) (ss_one st_break) ss_nil)
      (ss_cons (st_app (i := 4) (fun _ p => ps_expr (pe_bm PySem.F.plainAttrs_list PySem.F.slot_list_append PySem.F.type_list_append mt_append (pv 4) (pa_cons p pa_nil))) (ev_mod (ev_cb vc_int (ea_cons (ev_var 5 (pv 5)) ea_nil) fun _ p => pe_callTy call_int1 (by rfl) T.z_int (by decide +kernel) p) ev_int))
      (ss_one (st_set (fun _ p => ps_set (i := 5) sc_law_draws.nd rfl (by first | exact Or.inl rfl | exact Or.inr rfl) p) (ev_div (ev_var 5 (pv 5)) ev_int)))))) (sg_name (i := 6)) fun _ _ p q => ps_for (passes_of rfl) rfl p (pg_name (i := 6) sc_law_draws.nd rfl (by first | exact Or.inl rfl | exact Or.inr rfl)) q)) ss_nil))
      (ss_cons (st_set (fun _ p => ps_set (i := 7) sc_law_draws.nd rfl (by first | exact Or.inl rfl | exact Or.inr rfl) p) (ev_add (ev_add (ev_mod (ev_cb vc_int (ea_cons (ev_var 3 (pv 3)) ea_nil) fun _ p => pe_callTy call_int1 (by rfl) T.z_int (by decide +kernel) p) ev_int) (ev_mul ev_int (ev_var 1 (pv 1)))) ev_int))
      (ss_cons (st_for (ei_range1 (ea_cons (ev_sub (ev_var 2 (pv 2)) (ev_lenN (i := 4) (pe_callB call_len (by rfl) T.z_len PySem.boot_len (pa_cons (pv 4) pa_nil)))) ea_nil) fun _ p => pi_range1 (by rfl) T.z_range p) (ss_post [] [6] (ss_cons (st_set (fun _ p => ps_set (i := 7) sc_law_draws.nd rfl (by first | exact Or.inl rfl | exact Or.inr rfl) p) (ev_mod (ev_cb vc_int (ea_cons (ev_add (ev_add (ev_mul (ev_var 7 (pv 7)) (ev_var 7 (pv 7))) (ev_mul ev_int (ev_add (ev_var 6 (pv 6)) ev_int))) ev_int) ea_nil) fun _ p => pe_callTy call_int1 (by rfl) T.z_int (by decide +kernel) p) ev_int))
      (ss_one (st_app (i := 4) (fun _ p => ps_expr (pe_bm PySem.F.plainAttrs_list PySem.F.slot_list_append PySem.F.type_list_append mt_append (pv 4) (pa_cons p pa_nil))) (ev_mod (ev_cb vc_int (ea_cons (ev_add (ev_mod (ev_cb vc_int (ea_cons (ev_mul (ev_var 7 (pv 7)) (ev_var 7 (pv 7))) ea_nil) fun _ p => pe_callTy call_int1 (by rfl) T.z_int (by decide +kernel) p) ev_int) (ev_mul ev_int (ev_var 6 (pv 6)))) ea_nil) fun _ p => pe_callTy call_int1 (by rfl) T.z_int (by decide +kernel) p) ev_int))))) (sg_name (i := 6)) fun _ _ p q => ps_for (passes_of rfl) rfl p (pg_name (i := 6) sc_law_draws.nd rfl (by first | exact Or.inl rfl | exact Or.inr rfl)) q)
      (ss_one (st_pre [4] (st_ret (ev_var 4 (pv 4))))))))))))) (fun _ _ _ h => h)
@[irreducible] noncomputable def u_law_draws_1  : Int → ((List Int) × Int) → Option (LS ((List Int) × Int) ((List Int) × Int)) := fun (a8 : Int) (s7 : ((List Int) × Int)) =>
if (decide (s7.2 = (0 : Int))) = true then
some (.brk ((s7.1, s7.2)))
else
(appG s7.1 ((s7.2 % (9973 : Int)))).bind fun rows9 =>
letO ((s7.2 / (9973 : Int)) : Int) fun rest10 =>
some (.go ((rows9, rest10)))
@[irreducible] noncomputable def u_law_draws_2  : Int → ((List Int) × Int) → Option ((List Int) × Int) := fun (a15 : Int) (s14 : ((List Int) × Int)) =>
(mulG s14.2 s14.2).bind fun m16 =>
(mulG ((48271 : Int)) ((a15 + (1 : Int)))).bind fun m17 =>
letO ((((m16 + m17) + (12345 : Int)) % (999983 : Int)) : Int) fun seed18 =>
(mulG seed18 seed18).bind fun m20 =>
(mulG ((69621 : Int)) a15).bind fun m21 =>
(appG s14.1 ((((m20 % (1000003 : Int)) + m21) % (9973 : Int)))).bind fun rows19 =>
some ((rows19, seed18))
@[irreducible] noncomputable def t_law_draws (script0 : (List Int)) (at0 : Int) (count0 : Int) : Option (List Int) :=
(if (decide (at0 < (script0.length : Int))) = true then
(atI script0 at0).bind fun it2 =>
letO ((absT it2) : Int) fun cell3 =>
some cell3
else
some ((0 : Int))).bind fun s1 =>
((powG ((10 : Int)) ((18 : Int))).bind fun w5 =>
if (decide (w5 ≤ s1)) = true then
(rng1G count0).bind fun rg6 =>
forS u_law_draws_1 rg6 (([], s1)) fun s7 =>
some ((s7.1, s7.2))
else
some (([], s1))).bind fun s4 =>
(mulG ((611 : Int)) at0).bind fun m11 =>
letO ((((s1 % (1000003 : Int)) + m11) + (17 : Int)) : Int) fun seed12 =>
(rng1G ((count0 - (s4.1.length : Int)))).bind fun rg13 =>
(foldO u_law_draws_2 rg13 ((s4.1, seed12))).bind fun s14 =>
some s14.1
theorem tq_law_draws (script0 : (List Int)) (at0 : Int) (count0 : Int) : QS (RP (eL eI)) g_law_draws [.dat ((eR eI) script0), .dat (eI at0), .dat (eI count0), .un, .un, .un, .un, .un] (t_law_draws script0 at0 count0) := by unfold t_law_draws; exact (qs_set (qc_pur (qs_fr (ε' := [.dat ((eR eI) script0), .dat (eI at0), .dat (eI count0), .dat (eI ((0 : Int))), .un, .un, .un, .un]) rfl (qs_post (is := []) (js := []) (fun s1 => [.dat ((eR eI) script0), .dat (eI at0), .dat (eI count0), .dat (eI s1), .un, .un, .un, .un]) (qs_last (qs_if (qc_B (qc_op (qc_var rfl (qc_lenN_datM rfl rfl (qt_tot (eB ((decide (at0 < (script0.length : Int))))) rfl ⟨_, rfl, ⟨_, _, rfl, qs_unlast (qs_last (qs_set (qc_call (qc_cons (qc_call (qc_cons (qc_op (qc_var rfl (qc_var rfl (qt_par (t := atI script0 at0) eI (fun _ h => ixR_ok (e := eI) (xs := script0) h) fun it2 => (qc_nil (qt_tot (eI it2) rfl (qc_nil (qt_tot (eI ((absT it2))) rfl (qs_let (v := (absT it2)) (fun cell3 => [.dat ((eR eI) script0), .dat (eI at0), .dat (eI count0), .dat (eI cell3), .un, .un, .un, .un]) fun cell3 => (qs_nil (fin ⟨_, rfl, rfl⟩))))))))))))))))), qs_unlast (qs_nil (fin ⟨_, rfl, rfl⟩))⟩⟩))))))) fun s1 => (qs_setO (qc_lstO (qc_nil ⟨(Nat.le_of_ble_eq_true rfl), (qs_fr (ε' := [.dat ((eR eI) script0), .dat (eI at0), .dat (eI count0), .dat (eI s1), .own (List.map eI ([])), .un, .un, .un]) rfl (qs_set (qc_var rfl (qs_fr (ε' := [.dat ((eR eI) script0), .dat (eI at0), .dat (eI count0), .dat (eI s1), .own (List.map eI ([])), .dat (eI s1), .un, .un]) rfl (qs_post (is := []) (js := []) (fun s4 => [.dat ((eR eI) script0), .dat (eI at0), .dat (eI count0), .dat (eI s1), .own (List.map eI s4.1), .dat (eI s4.2), .un, .un]) (qs_last (qs_if (qc_B (qc_op (qc_var rfl (qc_op (qc_pur (qc_pur (qt_par (t := powG ((10 : Int)) ((18 : Int))) eI (fun _ h => pow_ok h) fun w5 => (qt_tot (eB ((decide (w5 ≤ s1)))) rfl ⟨_, rfl, ⟨_, _, rfl, qs_unlast (qs_last (qs_forS (qc_bnd (qc_cons (qc_var rfl (qc_nil (qc_lft (qt_par (t := rng1G count0) (fun xs => xs.map eI) (fun _ h => rng1_ok h) fun rg6 => ⟨_, _, rg6, eI, ([], s1), (fun s7 : ((List Int) × Int) => [.dat ((eR eI) script0), .dat (eI at0), .dat (eI count0), .dat (eI s1), .own (List.map eI s7.1), .dat (eI s7.2), .un, .un]), u_law_draws_1, _, rfl, rfl, rfl, (fun a8 s7 => ⟨_, rfl, by unfold u_law_draws_1; exact qs_fr (ε' := [.dat ((eR eI) script0), .dat (eI at0), .dat (eI count0), .dat (eI s1), .own (List.map eI s7.1), .dat (eI s7.2), .dat (eI a8), .un]) rfl (qs_tidyL (is := []) (js := [6]) (qs_if (qc_B (qc_op (qc_var rfl (qc_pur (qt_tot (eB ((decide (s7.2 = (0 : Int))))) rfl ⟨_, rfl, ⟨_, _, rfl, (qs_end (fin (nx_bk ⟨_, rfl, rfl⟩))), (qs_skip (qs_app ob_own (e := eI) rfl (qc_op (qc_call (qc_cons (qc_var rfl (qc_nil (qt_tot (eI s7.2) rfl (qc_pur (qt_tot (eI ((s7.2 % (9973 : Int)))) rfl ⟨_, _, _, rfl, rfl, rfl, fun rows9 => qs_fr (ε' := [.dat ((eR eI) script0), .dat (eI at0), .dat (eI count0), .dat (eI s1), .own (List.map eI rows9), .dat (eI s7.2), .dat (eI a8), .un]) rfl (qs_last (qs_set (qc_op (qc_var rfl (qc_pur (qt_tot (eI ((s7.2 / (9973 : Int)))) rfl (qs_let (v := (s7.2 / (9973 : Int))) (fun rest10 => [.dat ((eR eI) script0), .dat (eI at0), .dat (eI count0), .dat (eI s1), .own (List.map eI rows9), .dat (eI rest10), .dat (eI a8), .un]) fun rest10 => (qs_nil (fin ⟨_, .inl rfl, rfl⟩)))))))))⟩))))))))))⟩⟩)))))))⟩), fun s7 => (qs_nil (fin ⟨_, rfl, rfl⟩))⟩)))))))), qs_unlast (qs_nil (fin ⟨_, rfl, rfl⟩))⟩⟩)))))))))) fun s4 => (qs_set (qc_op (qc_op (qc_op (qc_call (qc_cons (qc_var rfl (qc_nil (qt_tot (eI s1) rfl (qc_pur (qt_tot (eI ((s1 % (1000003 : Int)))) rfl (qc_op (qc_pur (qc_var rfl (qt_par (t := mulG ((611 : Int)) at0) eI (fun _ h => mul_ok h) fun m11 => (qt_tot (eI (((s1 % (1000003 : Int)) + m11))) rfl (qc_pur (qt_tot (eI ((((s1 % (1000003 : Int)) + m11) + (17 : Int)))) rfl (qs_let (v := (((s1 % (1000003 : Int)) + m11) + (17 : Int))) (fun seed12 => [.dat ((eR eI) script0), .dat (eI at0), .dat (eI count0), .dat (eI s1), .own (List.map eI s4.1), .dat (eI s4.2), .un, .dat (eI seed12)]) fun seed12 => (qs_for (qc_bnd (qc_cons (qc_op (qc_var rfl (qc_lenN_ownM rfl (qt_tot (eI ((count0 - (s4.1.length : Int)))) rfl (qc_nil (qc_lft (qt_par (t := rng1G ((count0 - (s4.1.length : Int)))) (fun xs => xs.map eI) (fun _ h => rng1_ok h) fun rg13 => ⟨_, _, rg13, eI, (s4.1, seed12), (fun s14 : ((List Int) × Int) => [.dat ((eR eI) script0), .dat (eI at0), .dat (eI count0), .dat (eI s1), .own (List.map eI s14.1), .dat (eI s4.2), .un, .dat (eI s14.2)]), u_law_draws_2, _, rfl, rfl, rfl, (fun a15 s14 => ⟨_, rfl, by unfold u_law_draws_2; exact qs_fr (ε' := [.dat ((eR eI) script0), .dat (eI at0), .dat (eI count0), .dat (eI s1), .own (List.map eI s14.1), .dat (eI s4.2), .dat (eI a15), .dat (eI s14.2)]) rfl (qs_tidyC (is := []) (js := [6]) (qs_set (qc_op (qc_call (qc_cons (qc_op (qc_op (qc_op (qc_var rfl (qc_var rfl (qt_par (t := mulG s14.2 s14.2) eI (fun _ h => mul_ok h) fun m16 => (qc_op (qc_pur (qc_op (qc_var rfl (qc_pur (qt_tot (eI ((a15 + (1 : Int)))) rfl (qt_par (t := mulG ((48271 : Int)) ((a15 + (1 : Int)))) eI (fun _ h => mul_ok h) fun m17 => (qt_tot (eI ((m16 + m17))) rfl (qc_pur (qt_tot (eI (((m16 + m17) + (12345 : Int)))) rfl (qc_nil (qt_tot (eI (((m16 + m17) + (12345 : Int)))) rfl (qc_pur (qt_tot (eI ((((m16 + m17) + (12345 : Int)) % (999983 : Int)))) rfl (qs_let (v := (((m16 + m17) + (12345 : Int)) % (999983 : Int))) (fun seed18 => [.dat ((eR eI) script0), .dat (eI at0), .dat (eI count0), .dat (eI s1), .own (List.map eI s14.1), .dat (eI s4.2), .dat (eI a15), .dat (eI seed18)]) fun seed18 => (qs_last (qs_app ob_own (e := eI) rfl (qc_op (qc_call (qc_cons (qc_op (qc_op (qc_call (qc_cons (qc_op (qc_var rfl (qc_var rfl (qt_par (t := mulG seed18 seed18) eI (fun _ h => mul_ok h) fun m20 => (qc_nil (qt_tot (eI m20) rfl (qc_pur (qt_tot (eI ((m20 % (1000003 : Int)))) rfl (qc_op (qc_pur (qc_var rfl (qt_par (t := mulG ((69621 : Int)) a15) eI (fun _ h => mul_ok h) fun m21 => (qt_tot (eI (((m20 % (1000003 : Int)) + m21))) rfl (qc_nil (qt_tot (eI (((m20 % (1000003 : Int)) + m21))) rfl (qc_pur (qt_tot (eI ((((m20 % (1000003 : Int)) + m21) % (9973 : Int)))) rfl ⟨_, _, _, rfl, rfl, rfl, fun rows19 => qs_fr (ε' := [.dat ((eR eI) script0), .dat (eI at0), .dat (eI count0), .dat (eI s1), .own (List.map eI rows19), .dat (eI s4.2), .dat (eI a15), .dat (eI seed18)]) rfl (qs_nil (fin ⟨_, .inl rfl, rfl⟩))⟩))))))))))))))))))))))))))))))))))))))))))))))))))))⟩), fun s14 => (qs_pre1 (qs_fr (ε' := [.dat ((eR eI) script0), .dat (eI at0), .dat (eI count0), .dat (eI s1), .dat ((eL eI) s14.1), .dat (eI s4.2), .un, .dat (eI s14.2)]) rfl (qs_ret (qc_var rfl (fin ⟨_, rfl⟩)))))⟩))))))))))))))))))))))))))))))))))⟩)))))))
theorem tt_law_draws {script0 : (List Int)} {at0 : Int} {count0 : Int} {r : (List Int)} (h : t_law_draws script0 at0 count0 = some r) : m_law_draws [(eR eI) script0, eI at0, eI count0] = some (.ret ((eL eI) r)) := run_P (ε := [.dat ((eR eI) script0), .dat (eI at0), .dat (eI count0), .un, .un, .un, .un, .un]) rfl (tq_law_draws script0 at0 count0) h
def bd_law_rects_1 : MoS := (mPost [] [3, 4, 5] (mSeq (mSet 4 (mOp gIx (mVar 0) (mOp gMul (pur (.int 4)) (mVar 3))))
  (mSeq (mSet 5 (mOp gIx (mVar 0) (mOp gAdd (mOp gMul (pur (.int 4)) (mVar 3)) (pur (.int 1)))))
  (mApp 2 (mTup (mCons (mVar 4) (mCons (mVar 5) (mCons (mOp gAdd (mOp gAdd (mVar 4) (pur (.int 1))) (mCall (gOne gAbs) (mCons (mOp gIx (mVar 0) (mOp gAdd (mOp gMul (pur (.int 4)) (mVar 3)) (pur (.int 2)))) (pur [])))) (mCons (mOp gAdd (mOp gAdd (mVar 5) (pur (.int 1))) (mCall (gOne gAbs) (mCons (mOp gIx (mVar 0) (mOp gAdd (mOp gMul (pur (.int 4)) (mVar 3)) (pur (.int 3)))) (pur [])))) (pur []))))))))))
def g_law_rects : MoS := (mSeq (mSetO 2 (mLstO (pur [])))
  (mSeq (mFor (bnd (mCons (mVar 1) (pur [])) fun ds => lft (rng1 ds)) (gdName 3) bd_law_rects_1)
  (mRetOwn 2)))
def m_law_rects : List D → Option (List D) := runO 6 g_law_rects
theorem ok_law_rects (T : Txt P w K mg) : FnOk P w K mg base (CXX P w) 1 T.f_law_rects T.d_law_rects ["numbers", "many"] (SpO K 2 m_law_rects) := by
  exact fn_O (g := g_law_rects) T.F_law_rects sc_law_rects (fun cdv A outer s H E C hA hr tk => (ss_cons (st_setO (fun _ p => ps_set (i := 2) sc_law_rects.nd rfl (by first | exact Or.inl rfl | exact Or.inr rfl) p) (eo_lst ea_nil))
      (ss_cons (st_for (ei_range1 (ea_cons (ev_var 1 (pv 1)) ea_nil) fun _ p => pi_range1 (by rfl) T.z_range p) (ss_post [] [3, 4, 5] (ss_cons (st_set (fun _ p => ps_set (i := 4) sc_law_rects.nd rfl (by first | exact Or.inl rfl | exact Or.inr rfl) p) (ev_item (fun _ _ => rfl) (ev_var 0 (pv 0)) (ev_mul ev_int (ev_var 3 (pv 3)))))
      (ss_cons (st_set (fun _ p => ps_set (i := 5) sc_law_rects.nd rfl (by first | exact Or.inl rfl | exact Or.inr rfl) p) (ev_item (fun _ _ => rfl) (ev_var 0 (pv 0)) (ev_add (ev_mul ev_int (ev_var 3 (pv 3))) ev_int)))
      (ss_one (st_app (i := 2) (fun _ p => ps_expr (pe_bm PySem.F.plainAttrs_list PySem.F.slot_list_append PySem.F.type_list_append mt_append (pv 2) (pa_cons p pa_nil))) (ev_tup (ea_cons (ev_var 4 (pv 4)) (ea_cons (ev_var 5 (pv 5)) (ea_cons (ev_add (ev_add (ev_var 4 (pv 4)) ev_int) (ev_cb vc_abs (ea_cons (ev_item (fun _ _ => rfl) (ev_var 0 (pv 0)) (ev_add (ev_mul ev_int (ev_var 3 (pv 3))) ev_int)) ea_nil) fun _ p => pe_callB call_abs (by rfl) T.z_abs (by decide +kernel) p)) (ea_cons (ev_add (ev_add (ev_var 5 (pv 5)) ev_int) (ev_cb vc_abs (ea_cons (ev_item (fun _ _ => rfl) (ev_var 0 (pv 0)) (ev_add (ev_mul ev_int (ev_var 3 (pv 3))) ev_int)) ea_nil) fun _ p => pe_callB call_abs (by rfl) T.z_abs (by decide +kernel) p)) ea_nil)))))))))) (sg_name (i := 3)) fun _ _ p q => ps_for (passes_of rfl) rfl p (pg_name (i := 3) sc_law_rects.nd rfl (by first | exact Or.inl rfl | exact Or.inr rfl)) q)
      (ss_one (st_retOwn 2 (pv 2)))))) (fun _ _ _ h => runO_of h)
@[irreducible] noncomputable def u_law_rects_1 (numbers0 : (List Int)) : Int → ((List (Int × Int × Int × Int))) → Option ((List (Int × Int × Int × Int))) := fun (a3 : Int) (s2 : ((List (Int × Int × Int × Int)))) =>
(mulG ((4 : Int)) a3).bind fun m4 =>
(atI numbers0 m4).bind fun it5 =>
(mulG ((4 : Int)) a3).bind fun m6 =>
(atI numbers0 ((m6 + (1 : Int)))).bind fun it7 =>
(mulG ((4 : Int)) a3).bind fun m9 =>
(atI numbers0 ((m9 + (2 : Int)))).bind fun it10 =>
(mulG ((4 : Int)) a3).bind fun m11 =>
(atI numbers0 ((m11 + (3 : Int)))).bind fun it12 =>
(appG s2 ((it5, it7, ((it5 + (1 : Int)) + (absT it10)), ((it7 + (1 : Int)) + (absT it12))))).bind fun rows8 =>
some rows8
@[irreducible] noncomputable def t_law_rects (numbers0 : (List Int)) (many0 : Int) : Option (List (Int × Int × Int × Int)) :=
(rng1G many0).bind fun rg1 =>
(foldO (u_law_rects_1 numbers0) rg1 ([])).bind fun s2 =>
some s2
theorem tq_law_rects (numbers0 : (List Int)) (many0 : Int) : QS (RO (e4 eI eI eI eI)) g_law_rects [.dat ((eL eI) numbers0), .dat (eI many0), .un, .un, .un, .un] (t_law_rects numbers0 many0) := by unfold t_law_rects; exact (qs_setO (qc_lstO (qc_nil ⟨(Nat.le_of_ble_eq_true rfl), (qs_fr (ε' := [.dat ((eL eI) numbers0), .dat (eI many0), .own (List.map (e4 eI eI eI eI) ([])), .un, .un, .un]) rfl (qs_for (qc_bnd (qc_cons (qc_var rfl (qc_nil (qc_lft (qt_par (t := rng1G many0) (fun xs => xs.map eI) (fun _ h => rng1_ok h) fun rg1 => ⟨_, _, rg1, eI, [], (fun s2 : ((List (Int × Int × Int × Int))) => [.dat ((eL eI) numbers0), .dat (eI many0), .own (List.map (e4 eI eI eI eI) s2), .un, .un, .un]), (u_law_rects_1 numbers0), _, rfl, rfl, rfl, (fun a3 s2 => ⟨_, rfl, by unfold u_law_rects_1; exact qs_fr (ε' := [.dat ((eL eI) numbers0), .dat (eI many0), .own (List.map (e4 eI eI eI eI) s2), .dat (eI a3), .un, .un]) rfl (qs_tidyC (is := []) (js := [3, 4, 5]) (qs_set (qc_op (qc_var rfl (qc_op (qc_pur (qc_var rfl (qt_par (t := mulG ((4 : Int)) a3) eI (fun _ h => mul_ok h) fun m4 => (qt_par (t := atI numbers0 m4) eI (fun _ h => ixL_ok (e := eI) (xs := numbers0) h) fun it5 => (qs_fr (ε' := [.dat ((eL eI) numbers0), .dat (eI many0), .own (List.map (e4 eI eI eI eI) s2), .dat (eI a3), .dat (eI it5), .un]) rfl (qs_set (qc_op (qc_var rfl (qc_op (qc_op (qc_pur (qc_var rfl (qt_par (t := mulG ((4 : Int)) a3) eI (fun _ h => mul_ok h) fun m6 => (qc_pur (qt_tot (eI ((m6 + (1 : Int)))) rfl (qt_par (t := atI numbers0 ((m6 + (1 : Int)))) eI (fun _ h => ixL_ok (e := eI) (xs := numbers0) h) fun it7 => (qs_fr (ε' := [.dat ((eL eI) numbers0), .dat (eI many0), .own (List.map (e4 eI eI eI eI) s2), .dat (eI a3), .dat (eI it5), .dat (eI it7)]) rfl (qs_last (qs_app ob_own (e := (e4 eI eI eI eI)) rfl (qc_tup (qc_cons (qc_var rfl (qc_cons (qc_var rfl (qc_cons (qc_op (qc_op (qc_var rfl (qc_pur (qt_tot (eI ((it5 + (1 : Int)))) rfl (qc_call (qc_cons (qc_op (qc_var rfl (qc_op (qc_op (qc_pur (qc_var rfl (qt_par (t := mulG ((4 : Int)) a3) eI (fun _ h => mul_ok h) fun m9 => (qc_pur (qt_tot (eI ((m9 + (2 : Int)))) rfl (qt_par (t := atI numbers0 ((m9 + (2 : Int)))) eI (fun _ h => ixL_ok (e := eI) (xs := numbers0) h) fun it10 => (qc_nil (qt_tot (eI ((absT it10))) rfl (qt_tot (eI (((it5 + (1 : Int)) + (absT it10)))) rfl (qc_cons (qc_op (qc_op (qc_var rfl (qc_pur (qt_tot (eI ((it7 + (1 : Int)))) rfl (qc_call (qc_cons (qc_op (qc_var rfl (qc_op (qc_op (qc_pur (qc_var rfl (qt_par (t := mulG ((4 : Int)) a3) eI (fun _ h => mul_ok h) fun m11 => (qc_pur (qt_tot (eI ((m11 + (3 : Int)))) rfl (qt_par (t := atI numbers0 ((m11 + (3 : Int)))) eI (fun _ h => ixL_ok (e := eI) (xs := numbers0) h) fun it12 => (qc_nil (qt_tot (eI ((absT it12))) rfl (qt_tot (eI (((it7 + (1 : Int)) + (absT it12)))) rfl (qc_nil ⟨(Nat.le_of_ble_eq_true rfl), ⟨_, _, _, rfl, rfl, rfl, fun rows8 => qs_fr (ε' := [.dat ((eL eI) numbers0), .dat (eI many0), .own (List.map (e4 eI eI eI eI) rows8), .dat (eI a3), .dat (eI it5), .dat (eI it7)]) rfl (qs_nil (fin ⟨_, .inl rfl, rfl⟩))⟩⟩))))))))))))))))))))))))))))))))))))))))))))))))))))))))))))))))))))))))⟩), fun s2 => (qs_retOwn rfl (fin ⟨_, rfl⟩))⟩))))))))⟩)))
theorem tt_law_rects {numbers0 : (List Int)} {many0 : Int} {r : (List (Int × Int × Int × Int))} (h : t_law_rects numbers0 many0 = some r) : m_law_rects [(eL eI) numbers0, eI many0] = some (r.map (e4 eI eI eI eI)) := run_O (ε := [.dat ((eL eI) numbers0), .dat (eI many0), .un, .un, .un, .un]) rfl (tq_law_rects numbers0 many0) h
def g_law_whole : MoS := (mRet (mAndV (mCall gIsi (mCons (mVar 0) (mCons (pur (.rf (.ty "int"))) (pur [])))) (mNotV (mCall gIsi (mCons (mVar 0) (mCons (pur (.rf (.ty "bool"))) (pur [])))))))
def m_law_whole : List D → Option Ans := runP 1 g_law_whole
theorem ok_law_whole (T : Txt P w K mg) : FnOk P w K mg base (CXX P w) 1 T.f_law_whole T.d_law_whole ["got"] (SpP K 1 m_law_whole) := by
  exact fn_P (g := g_law_whole) T.F_law_whole sc_law_whole (fun cdv A outer s H E C hA hr tk => (ss_one (st_ret (ev_and (ev_cb vc_isi (ea_cons (ev_var 0 (pv 0)) (ea_cons (ev_c (d := .rf (.ty "int")) (pe_bltn (v := .ty "int") (by rfl) T.z_int (by decide +kernel) rfl) (fun _ _ => .rf _)) ea_nil)) fun _ p => pe_callB call_isi (by rfl) T.z_isinstance (by decide +kernel) p) (ev_one (ev_not (ev_cb vc_isi (ea_cons (ev_var 0 (pv 0)) (ea_cons (ev_c (d := .rf (.ty "bool")) (pe_bltn (v := .ty "bool") (by rfl) T.z_bool (by decide +kernel) rfl) (fun _ _ => .rf _)) ea_nil)) fun _ p => pe_callB call_isi (by rfl) T.z_isinstance (by decide +kernel) p))))))) (fun _ _ _ h => h)
def bd_law_comb_1 : MoS := (mPost [] [4, 5, 6, 7, 8] (mSeq (mSet 5 (mOp gMul (mOp gAdd (pur (.int 1)) (mCall (gOne gAbs) (mCons (mOp gIx (mVar 0) (pur (.int 5))) (pur [])))) (mVar 4)))
  (mSeq (mSet 6 (pur (.int 0)))
  (mSeq (mPost [] [] (mIfS (mB (mOp gEqS (mOp gMod (mCall (gOne gInt) (mCons (mOp gIx (mVar 0) (pur (.int 6))) (pur []))) (pur (.int 2))) (pur (.int 1)))) (mSeq (mSet 6 (mVar 5))
  (mSet 5 (pur (.int 0)))) mNil))
  (mSeq (mSet 7 (mOp gAdd (mOp gIx (mVar 0) (pur (.int 0))) (mVar 5)))
  (mSeq (mSet 8 (mOp gAdd (mOp gIx (mVar 0) (pur (.int 1))) (mVar 6)))
  (mApp 3 (mTup (mCons (mVar 7) (mCons (mVar 8) (mCons (mOp gAdd (mVar 7) (mVar 1)) (mCons (mOp gAdd (mVar 8) (mVar 2)) (pur [])))))))))))))
def g_law_comb : MoS := (mSeq (mSet 1 (mOp gAdd (pur (.int 1)) (mCall (gOne gAbs) (mCons (mOp gIx (mVar 0) (pur (.int 2))) (pur [])))))
  (mSeq (mSet 2 (mOp gAdd (pur (.int 1)) (mCall (gOne gAbs) (mCons (mOp gIx (mVar 0) (pur (.int 3))) (pur [])))))
  (mSeq (mSetO 3 (mLstO (pur [])))
  (mSeq (mFor (bnd (mCons (mOp gAdd (pur (.int 8)) (mOp gMod (mCall (gOne gInt) (mCons (mOp gIx (mVar 0) (pur (.int 4))) (pur []))) (pur (.int 33)))) (pur [])) fun ds => lft (rng1 ds)) (gdName 4) bd_law_comb_1)
  (mRetOwn 3)))))
def m_law_comb : List D → Option (List D) := runO 9 g_law_comb
theorem ok_law_comb (T : Txt P w K mg) : FnOk P w K mg base (CXX P w) 1 T.f_law_comb T.d_law_comb ["numbers"] (SpO K 1 m_law_comb) := by
  exact fn_O (g := g_law_comb) T.F_law_comb sc_law_comb (fun cdv A outer s H E C hA hr tk => (ss_cons (st_set (fun _ p => ps_set (i := 1) sc_law_comb.nd rfl (by first | exact Or.inl rfl | exact Or.inr rfl) p) (ev_add ev_int (ev_cb vc_abs (ea_cons (ev_item (fun _ _ => rfl) (ev_var 0 (pv 0)) ev_int) ea_nil) fun _ p => pe_callB call_abs (by rfl) T.z_abs (by decide +kernel) p)))
      (ss_cons (st_set (fun _ p => ps_set (i := 2) sc_law_comb.nd rfl (by first | exact Or.inl rfl | exact Or.inr rfl) p) (ev_add ev_int (ev_cb vc_abs (ea_cons (ev_item (fun _ _ => rfl) (ev_var 0 (pv 0)) ev_int) ea_nil) fun _ p => pe_callB call_abs (by rfl) T.z_abs (by decide +kernel) p)))
      (ss_cons (st_setO (fun _ p => ps_set (i := 3) sc_law_comb.nd rfl (by first | exact Or.inl rfl | exact Or.inr rfl) p) (eo_lst ea_nil))
      (ss_cons (st_for (ei_range1 (ea_cons (ev_add ev_int (ev_mod (ev_cb vc_int (ea_cons (ev_item (fun _ _ => rfl) (ev_var 0 (pv 0)) ev_int) ea_nil) fun _ p => pe_callTy call_int1 (by rfl) T.z_int (by decide +kernel) p) ev_int)) ea_nil) fun _ p => pi_range1 (by rfl) T.z_range p) (ss_post [] [4, 5, 6, 7, 8] (ss_cons (st_set (fun _ p => ps_set (i := 5) sc_law_comb.nd rfl (by first | exact Or.inl rfl | exact Or.inr rfl) p) (ev_mul (ev_add ev_int (ev_cb vc_abs (ea_cons (ev_item (fun _ _ => rfl) (ev_var 0 (pv 0)) ev_int) ea_nil) fun _ p => pe_callB call_abs (by rfl) T.z_abs (by decide +kernel) p)) (ev_var 4 (pv 4))))
      (ss_cons (st_set (fun _ p => ps_set (i := 6) sc_law_comb.nd rfl (by first | exact Or.inl rfl | exact Or.inr rfl) p) ev_int)
      (ss_cons (st_post [] [] (st_if (te_cmp op_eq (nomark _) vop_eqS (ev_mod (ev_cb vc_int (ea_cons (ev_item (fun _ _ => rfl) (ev_var 0 (pv 0)) ev_int) ea_nil) fun _ p => pe_callTy call_int1 (by rfl) T.z_int (by decide +kernel) p) ev_int) ev_int) (ss_cons (st_set (fun _ p => ps_set (i := 6) sc_law_comb.nd rfl (by first | exact Or.inl rfl | exact Or.inr rfl) p) (ev_var 5 (pv 5)))
      (ss_one (st_set (fun _ p => ps_set (i := 5) sc_law_comb.nd rfl (by first | exact Or.inl rfl | exact Or.inr rfl) p) ev_int))) ss_nil))
      (ss_cons (st_set (fun _ p => ps_set (i := 7) sc_law_comb.nd rfl (by first | exact Or.inl rfl | exact Or.inr rfl) p) (ev_add (ev_item (fun _ _ => rfl) (ev_var 0 (pv 0)) ev_int) (ev_var 5 (pv 5))))
      (ss_cons (st_set (fun _ p => ps_set (i := 8) sc_law_comb.nd rfl (by first | exact Or.inl rfl | exact Or.inr rfl) p) (ev_add (ev_item (fun _ _ => rfl) (ev_var 0 (pv 0)) ev_int) (ev_var 6 (pv 6))))
      (ss_one (st_app (i := 3) (fun _ p => ps_expr (pe_bm PySem.F.plainAttrs_list PySem.F.slot_list_append PySem.F.type_list_append mt_append (pv 3) (pa_cons p pa_nil))) (ev_tup (ea_cons (ev_var 7 (pv 7)) (ea_cons (ev_var 8 (pv 8)) (ea_cons (ev_add (ev_var 7 (pv 7)) (ev_var 1 (pv 1))) (ea_cons (ev_add (ev_var 8 (pv 8)) (ev_var 2 (pv 2))) ea_nil))))))))))))) (sg_name (i := 4)) fun _ _ p q => ps_for (passes_of rfl) rfl p (pg_name (i := 4) sc_law_comb.nd rfl (by first | exact Or.inl rfl | exact Or.inr rfl)) q)
      (ss_one (st_retOwn 3 (pv 3)))))))) (fun _ _ _ h => runO_of h)
@[irreducible] noncomputable def u_law_comb_1 (numbers0 : (List Int)) (wide2 : Int) (high4 : Int) : Int → ((List (Int × Int × Int × Int))) → Option ((List (Int × Int × Int × Int))) := fun (a8 : Int) (s7 : ((List (Int × Int × Int × Int)))) =>
(atI numbers0 ((5 : Int))).bind fun it9 =>
(mulG (((1 : Int) + (absT it9))) a8).bind fun m10 =>
((atI numbers0 ((6 : Int))).bind fun it12 =>
if (decide ((it12 % (2 : Int)) = (1 : Int))) = true then
some (((0 : Int), m10))
else
some ((m10, (0 : Int)))).bind fun s11 =>
(atI numbers0 ((0 : Int))).bind fun it13 =>
letO ((it13 + s11.1) : Int) fun x14 =>
(atI numbers0 ((1 : Int))).bind fun it15 =>
letO ((it15 + s11.2) : Int) fun y16 =>
(appG s7 ((x14, y16, (x14 + wide2), (y16 + high4)))).bind fun rows17 =>
some rows17
@[irreducible] noncomputable def t_law_comb (numbers0 : (List Int)) : Option (List (Int × Int × Int × Int)) :=
(atI numbers0 ((2 : Int))).bind fun it1 =>
letO (((1 : Int) + (absT it1)) : Int) fun wide2 =>
(atI numbers0 ((3 : Int))).bind fun it3 =>
letO (((1 : Int) + (absT it3)) : Int) fun high4 =>
(atI numbers0 ((4 : Int))).bind fun it5 =>
(rng1G (((8 : Int) + (it5 % (33 : Int))))).bind fun rg6 =>
(foldO (u_law_comb_1 numbers0 wide2 high4) rg6 ([])).bind fun s7 =>
some s7
theorem tq_law_comb (numbers0 : (List Int)) : QS (RO (e4 eI eI eI eI)) g_law_comb [.dat ((eL eI) numbers0), .un, .un, .un, .un, .un, .un, .un, .un] (t_law_comb numbers0) := by unfold t_law_comb; exact (qs_set (qc_op (qc_pur (qc_call (qc_cons (qc_op (qc_var rfl (qc_pur (qt_par (t := atI numbers0 ((2 : Int))) eI (fun _ h => ixL_ok (e := eI) (xs := numbers0) h) fun it1 => (qc_nil (qt_tot (eI ((absT it1))) rfl (qt_tot (eI (((1 : Int) + (absT it1)))) rfl (qs_let (v := ((1 : Int) + (absT it1))) (fun wide2 => [.dat ((eL eI) numbers0), .dat (eI wide2), .un, .un, .un, .un, .un, .un, .un]) fun wide2 => (qs_set (qc_op (qc_pur (qc_call (qc_cons (qc_op (qc_var rfl (qc_pur (qt_par (t := atI numbers0 ((3 : Int))) eI (fun _ h => ixL_ok (e := eI) (xs := numbers0) h) fun it3 => (qc_nil (qt_tot (eI ((absT it3))) rfl (qt_tot (eI (((1 : Int) + (absT it3)))) rfl (qs_let (v := ((1 : Int) + (absT it3))) (fun high4 => [.dat ((eL eI) numbers0), .dat (eI wide2), .dat (eI high4), .un, .un, .un, .un, .un, .un]) fun high4 => (qs_setO (qc_lstO (qc_nil ⟨(Nat.le_of_ble_eq_true rfl), (qs_fr (ε' := [.dat ((eL eI) numbers0), .dat (eI wide2), .dat (eI high4), .own (List.map (e4 eI eI eI eI) ([])), .un, .un, .un, .un, .un]) rfl (qs_for (qc_bnd (qc_cons (qc_op (qc_pur (qc_op (qc_call (qc_cons (qc_op (qc_var rfl (qc_pur (qt_par (t := atI numbers0 ((4 : Int))) eI (fun _ h => ixL_ok (e := eI) (xs := numbers0) h) fun it5 => (qc_nil (qt_tot (eI it5) rfl (qc_pur (qt_tot (eI ((it5 % (33 : Int)))) rfl (qt_tot (eI (((8 : Int) + (it5 % (33 : Int))))) rfl (qc_nil (qc_lft (qt_par (t := rng1G (((8 : Int) + (it5 % (33 : Int))))) (fun xs => xs.map eI) (fun _ h => rng1_ok h) fun rg6 => ⟨_, _, rg6, eI, [], (fun s7 : ((List (Int × Int × Int × Int))) => [.dat ((eL eI) numbers0), .dat (eI wide2), .dat (eI high4), .own (List.map (e4 eI eI eI eI) s7), .un, .un, .un, .un, .un]), (u_law_comb_1 numbers0 wide2 high4), _, rfl, rfl, rfl, (fun a8 s7 => ⟨_, rfl, by unfold u_law_comb_1; exact qs_fr (ε' := [.dat ((eL eI) numbers0), .dat (eI wide2), .dat (eI high4), .own (List.map (e4 eI eI eI eI) s7), .dat (eI a8), .un, .un, .un, .un]) rfl (qs_tidyC (is := []) (js := [4, 5, 6, 7, 8]) (qs_set (qc_op (qc_op (qc_pur (qc_call (qc_cons (qc_op (qc_var rfl (qc_pur (qt_par (t := atI numbers0 ((5 : Int))) eI (fun _ h => ixL_ok (e := eI) (xs := numbers0) h) fun it9 => (qc_nil (qt_tot (eI ((absT it9))) rfl (qt_tot (eI (((1 : Int) + (absT it9)))) rfl (qc_var rfl (qt_par (t := mulG (((1 : Int) + (absT it9))) a8) eI (fun _ h => mul_ok h) fun m10 => (qs_fr (ε' := [.dat ((eL eI) numbers0), .dat (eI wide2), .dat (eI high4), .own (List.map (e4 eI eI eI eI) s7), .dat (eI a8), .dat (eI m10), .un, .un, .un]) rfl (qs_set (qc_pur (qs_fr (ε' := [.dat ((eL eI) numbers0), .dat (eI wide2), .dat (eI high4), .own (List.map (e4 eI eI eI eI) s7), .dat (eI a8), .dat (eI m10), .dat (eI ((0 : Int))), .un, .un]) rfl (qs_post (is := []) (js := []) (fun s11 => [.dat ((eL eI) numbers0), .dat (eI wide2), .dat (eI high4), .own (List.map (e4 eI eI eI eI) s7), .dat (eI a8), .dat (eI s11.1), .dat (eI s11.2), .un, .un]) (qs_last (qs_if (qc_B (qc_op (qc_op (qc_call (qc_cons (qc_op (qc_var rfl (qc_pur (qt_par (t := atI numbers0 ((6 : Int))) eI (fun _ h => ixL_ok (e := eI) (xs := numbers0) h) fun it12 => (qc_nil (qt_tot (eI it12) rfl (qc_pur (qt_tot (eI ((it12 % (2 : Int)))) rfl (qc_pur (qt_tot (eB ((decide ((it12 % (2 : Int)) = (1 : Int))))) rfl ⟨_, rfl, ⟨_, _, rfl, qs_unlast (qs_set (qc_var rfl (qs_fr (ε' := [.dat ((eL eI) numbers0), .dat (eI wide2), .dat (eI high4), .own (List.map (e4 eI eI eI eI) s7), .dat (eI a8), .dat (eI m10), .dat (eI m10), .un, .un]) rfl (qs_last (qs_set (qc_pur (qs_fr (ε' := [.dat ((eL eI) numbers0), .dat (eI wide2), .dat (eI high4), .own (List.map (e4 eI eI eI eI) s7), .dat (eI a8), .dat (eI ((0 : Int))), .dat (eI m10), .un, .un]) rfl (qs_nil (fin ⟨_, rfl, rfl⟩))))))))), qs_unlast (qs_nil (fin ⟨_, rfl, rfl⟩))⟩⟩))))))))))))))))) fun s11 => (qs_set (qc_op (qc_op (qc_var rfl (qc_pur (qt_par (t := atI numbers0 ((0 : Int))) eI (fun _ h => ixL_ok (e := eI) (xs := numbers0) h) fun it13 => (qc_var rfl (qt_tot (eI ((it13 + s11.1))) rfl (qs_let (v := (it13 + s11.1)) (fun x14 => [.dat ((eL eI) numbers0), .dat (eI wide2), .dat (eI high4), .own (List.map (e4 eI eI eI eI) s7), .dat (eI a8), .dat (eI s11.1), .dat (eI s11.2), .dat (eI x14), .un]) fun x14 => (qs_set (qc_op (qc_op (qc_var rfl (qc_pur (qt_par (t := atI numbers0 ((1 : Int))) eI (fun _ h => ixL_ok (e := eI) (xs := numbers0) h) fun it15 => (qc_var rfl (qt_tot (eI ((it15 + s11.2))) rfl (qs_let (v := (it15 + s11.2)) (fun y16 => [.dat ((eL eI) numbers0), .dat (eI wide2), .dat (eI high4), .own (List.map (e4 eI eI eI eI) s7), .dat (eI a8), .dat (eI s11.1), .dat (eI s11.2), .dat (eI x14), .dat (eI y16)]) fun y16 => (qs_last (qs_app ob_own (e := (e4 eI eI eI eI)) rfl (qc_tup (qc_cons (qc_var rfl (qc_cons (qc_var rfl (qc_cons (qc_op (qc_var rfl (qc_var rfl (qt_tot (eI ((x14 + wide2))) rfl (qc_cons (qc_op (qc_var rfl (qc_var rfl (qt_tot (eI ((y16 + high4))) rfl (qc_nil ⟨(Nat.le_of_ble_eq_true rfl), ⟨_, _, _, rfl, rfl, rfl, fun rows17 => qs_fr (ε' := [.dat ((eL eI) numbers0), .dat (eI wide2), .dat (eI high4), .own (List.map (e4 eI eI eI eI) rows17), .dat (eI a8), .dat (eI s11.1), .dat (eI s11.2), .dat (eI x14), .dat (eI y16)]) rfl (qs_nil (fin ⟨_, .inl rfl, rfl⟩))⟩⟩)))))))))))))))))))))))))))))))))))))))))))))))))))))))))⟩), fun s7 => (qs_retOwn rfl (fin ⟨_, rfl⟩))⟩)))))))))))))))))))))⟩)))))))))))))))))))))))))))))
theorem tt_law_comb {numbers0 : (List Int)} {r : (List (Int × Int × Int × Int))} (h : t_law_comb numbers0 = some r) : m_law_comb [(eL eI) numbers0] = some (r.map (e4 eI eI eI eI)) := run_O (ε := [.dat ((eL eI) numbers0), .un, .un, .un, .un, .un, .un, .un, .un]) rfl (tq_law_comb numbers0) h
def g_law_second : MoS := (mSeq (mSet 3 (mOp DL.gSub (mOp gIx (mVar 1) (pur (.int 2))) (mOp gIx (mVar 1) (pur (.int 0)))))
  (mSeq (mSet 4 (mOp DL.gSub (mOp gIx (mVar 1) (pur (.int 3))) (mOp gIx (mVar 1) (pur (.int 1)))))
  (mSeq (mIfS (mB (mOp gEqS (mVar 2) (pur (.int 1)))) (mRet (mTup (mCons (mOp gIx (mVar 0) (pur (.int 2))) (mCons (mOp gIx (mVar 0) (pur (.int 1))) (mCons (mOp gAdd (mOp gIx (mVar 0) (pur (.int 2))) (mVar 3)) (mCons (mOp gIx (mVar 0) (pur (.int 3))) (pur []))))))) mNil)
  (mSeq (mIfS (mB (mOp gEqS (mVar 2) (pur (.int 2)))) (mRet (mTup (mCons (mOp gIx (mVar 0) (pur (.int 0))) (mCons (mOp gIx (mVar 0) (pur (.int 3))) (mCons (mOp gIx (mVar 0) (pur (.int 2))) (mCons (mOp gAdd (mOp gIx (mVar 0) (pur (.int 3))) (mVar 4)) (pur []))))))) mNil)
  (mSeq (mIfS (mB (mOp gEqS (mVar 2) (pur (.int 3)))) (mRet (mTup (mCons (mOp gIx (mVar 0) (pur (.int 2))) (mCons (mOp gIx (mVar 0) (pur (.int 3))) (mCons (mOp gAdd (mOp gIx (mVar 0) (pur (.int 2))) (mVar 3)) (mCons (mOp gAdd (mOp gIx (mVar 0) (pur (.int 3))) (mVar 4)) (pur []))))))) mNil)
  (mSeq (mIfS (mB (mOp gEqS (mVar 2) (pur (.int 4)))) (mRet (mVar 0)) mNil)
  (mSeq (mIfS (mB (mOp gEqS (mVar 2) (pur (.int 5)))) (mRet (mTup (mCons (mOp gAdd (mOp gIx (mVar 0) (pur (.int 0))) (mOp gMod (mCall (gOne gInt) (mCons (mVar 3) (pur []))) (mOp DL.gSub (mOp gIx (mVar 0) (pur (.int 2))) (mOp gIx (mVar 0) (pur (.int 0)))))) (mCons (mOp gAdd (mOp gIx (mVar 0) (pur (.int 1))) (mOp gMod (mCall (gOne gInt) (mCons (mVar 4) (pur []))) (mOp DL.gSub (mOp gIx (mVar 0) (pur (.int 3))) (mOp gIx (mVar 0) (pur (.int 1)))))) (mCons (mOp gIx (mVar 0) (pur (.int 2))) (mCons (mOp gIx (mVar 0) (pur (.int 3))) (pur []))))))) mNil)
  (mSeq (mIfS (mB (mOp gEqS (mVar 2) (pur (.int 6)))) (mRet (mTup (mCons (mOp DL.gSub (mOp gIx (mVar 0) (pur (.int 2))) (pur (.int 1))) (mCons (mOp DL.gSub (mOp gIx (mVar 0) (pur (.int 3))) (mVar 4)) (mCons (mOp gAdd (mOp gIx (mVar 0) (pur (.int 2))) (mVar 3)) (mCons (mOp gIx (mVar 0) (pur (.int 3))) (pur []))))))) mNil)
  (mSeq (mIfS (mB (mOp gEqS (mVar 2) (pur (.int 7)))) (mRet (mTup (mCons (mOp gIx (mVar 0) (pur (.int 0))) (mCons (mOp DL.gSub (mOp gIx (mVar 0) (pur (.int 3))) (pur (.int 1))) (mCons (mOp gAdd (mOp gIx (mVar 0) (pur (.int 0))) (mVar 3)) (mCons (mOp gAdd (mOp gIx (mVar 0) (pur (.int 3))) (mVar 4)) (pur []))))))) mNil)
  (mRet (mVar 1)))))))))))
def m_law_second : List D → Option Ans := runP 5 g_law_second
theorem ok_law_second (T : Txt P w K mg) : FnOk P w K mg base (CXX P w) 1 T.f_law_second T.d_law_second ["a", "b", "way"] (SpP K 3 m_law_second) := by
  exact fn_P (g := g_law_second) T.F_law_second sc_law_second (fun cdv A outer s H E C hA hr tk => (ss_cons (st_set (fun _ p => ps_set (i := 3) sc_law_second.nd rfl (by first | exact Or.inl rfl | exact Or.inr rfl) p) (ev_sub (ev_item (fun _ _ => rfl) (ev_var 1 (pv 1)) ev_int) (ev_item (fun _ _ => rfl) (ev_var 1 (pv 1)) ev_int)))
      (ss_cons (st_set (fun _ p => ps_set (i := 4) sc_law_second.nd rfl (by first | exact Or.inl rfl | exact Or.inr rfl) p) (ev_sub (ev_item (fun _ _ => rfl) (ev_var 1 (pv 1)) ev_int) (ev_item (fun _ _ => rfl) (ev_var 1 (pv 1)) ev_int)))
      (ss_cons (st_if (te_cmp op_eq (nomark _) vop_eqS (ev_var 2 (pv 2)) ev_int) (ss_one (st_ret (ev_tup (ea_cons (ev_item (fun _ _ => rfl) (ev_var 0 (pv 0)) ev_int) (ea_cons (ev_item (fun _ _ => rfl) (ev_var 0 (pv 0)) ev_int) (ea_cons (ev_add (ev_item (fun _ _ => rfl) (ev_var 0 (pv 0)) ev_int) (ev_var 3 (pv 3))) (ea_cons (ev_item (fun _ _ => rfl) (ev_var 0 (pv 0)) ev_int) ea_nil))))))) ss_nil)
      (ss_cons (st_if (te_cmp op_eq (nomark _) vop_eqS (ev_var 2 (pv 2)) ev_int) (ss_one (st_ret (ev_tup (ea_cons (ev_item (fun _ _ => rfl) (ev_var 0 (pv 0)) ev_int) (ea_cons (ev_item (fun _ _ => rfl) (ev_var 0 (pv 0)) ev_int) (ea_cons (ev_item (fun _ _ => rfl) (ev_var 0 (pv 0)) ev_int) (ea_cons (ev_add (ev_item (fun _ _ => rfl) (ev_var 0 (pv 0)) ev_int) (ev_var 4 (pv 4))) ea_nil))))))) ss_nil)
      (ss_cons (st_if (te_cmp op_eq (nomark _) vop_eqS (ev_var 2 (pv 2)) ev_int) (ss_one (st_ret (ev_tup (ea_cons (ev_item (fun _ _ => rfl) (ev_var 0 (pv 0)) ev_int) (ea_cons (ev_item (fun _ _ => rfl) (ev_var 0 (pv 0)) ev_int) (ea_cons (ev_add (ev_item (fun _ _ => rfl) (ev_var 0 (pv 0)) ev_int) (ev_var 3 (pv 3))) (ea_cons (ev_add (ev_item (fun _ _ => rfl) (ev_var 0 (pv 0)) ev_int) (ev_var 4 (pv 4))) ea_nil))))))) ss_nil)
      (ss_cons (st_if (te_cmp op_eq (nomark _) vop_eqS (ev_var 2 (pv 2)) ev_int) (ss_one (st_ret (ev_var 0 (pv 0)))) ss_nil)
      (ss_cons (st_if (te_cmp op_eq (nomark _) vop_eqS (ev_var 2 (pv 2)) ev_int) (ss_one (st_ret (ev_tup (ea_cons (ev_add (ev_item (fun _ _ => rfl) (ev_var 0 (pv 0)) ev_int) (ev_mod (ev_cb vc_int (ea_cons (ev_var 3 (pv 3)) ea_nil) fun _ p => pe_callTy call_int1 (by rfl) T.z_int (by decide +kernel) p) (ev_sub (ev_item (fun _ _ => rfl) (ev_var 0 (pv 0)) ev_int) (ev_item (fun _ _ => rfl) (ev_var 0 (pv 0)) ev_int)))) (ea_cons (ev_add (ev_item (fun _ _ => rfl) (ev_var 0 (pv 0)) ev_int) (ev_mod (ev_cb vc_int (ea_cons (ev_var 4 (pv 4)) ea_nil) fun _ p => pe_callTy call_int1 (by rfl) T.z_int (by decide +kernel) p) (ev_sub (ev_item (fun _ _ => rfl) (ev_var 0 (pv 0)) ev_int) (ev_item (fun _ _ => rfl) (ev_var 0 (pv 0)) ev_int)))) (ea_cons (ev_item (fun _ _ => rfl) (ev_var 0 (pv 0)) ev_int) (ea_cons (ev_item (fun _ _ => rfl) (ev_var 0 (pv 0)) ev_int) ea_nil))))))) ss_nil)
      (ss_cons (st_if (te_cmp op_eq (nomark _) vop_eqS (ev_var 2 (pv 2)) ev_int) (ss_one (st_ret (ev_tup (ea_cons (ev_sub (ev_item (fun _ _ => rfl) (ev_var 0 (pv 0)) ev_int) ev_int) (ea_cons (ev_sub (ev_item (fun _ _ => rfl) (ev_var 0 (pv 0)) ev_int) (ev_var 4 (pv 4))) (ea_cons (ev_add (ev_item (fun _ _ => rfl) (ev_var 0 (pv 0)) ev_int) (ev_var 3 (pv 3))) (ea_cons (ev_item (fun _ _ => rfl) (ev_var 0 (pv 0)) ev_int) ea_nil))))))) ss_nil)
      (ss_cons (st_if (te_cmp op_eq (nomark _) vop_eqS (ev_var 2 (pv 2)) ev_int) (ss_one (st_ret (ev_tup (ea_cons (ev_item (fun _ _ => rfl) (ev_var 0 (pv 0)) ev_int) (ea_cons (ev_sub (ev_item (fun _ _ => rfl) (ev_var 0 (pv 0)) ev_int) ev_int) (ea_cons (ev_add (ev_item (fun _ _ => rfl) (ev_var 0 (pv 0)) ev_int) (ev_var 3 (pv 3))) (ea_cons (ev_add (ev_item (fun _ _ => rfl) (ev_var 0 (pv 0)) ev_int) (ev_var 4 (pv 4))) ea_nil))))))) ss_nil)
      (ss_one (st_ret (ev_var 1 (pv 1)))))))))))))) (fun _ _ _ h => h)
@[irreducible] noncomputable def t_law_second (a0 : (Int × Int × Int × Int)) (b0 : (Int × Int × Int × Int)) (way0 : Int) : Option (Int × Int × Int × Int) :=
letO ((b0.2.2.1 - b0.1) : Int) fun wide1 =>
letO ((b0.2.2.2 - b0.2.1) : Int) fun high2 =>
if (decide (way0 = (1 : Int))) = true then
some ((a0.2.2.1, a0.2.1, (a0.2.2.1 + wide1), a0.2.2.2))
else
if (decide (way0 = (2 : Int))) = true then
some ((a0.1, a0.2.2.2, a0.2.2.1, (a0.2.2.2 + high2)))
else
if (decide (way0 = (3 : Int))) = true then
some ((a0.2.2.1, a0.2.2.2, (a0.2.2.1 + wide1), (a0.2.2.2 + high2)))
else
if (decide (way0 = (4 : Int))) = true then
some a0
else
if (decide (way0 = (5 : Int))) = true then
(modG wide1 ((a0.2.2.1 - a0.1))).bind fun r3 =>
(modG high2 ((a0.2.2.2 - a0.2.1))).bind fun r4 =>
some (((a0.1 + r3), (a0.2.1 + r4), a0.2.2.1, a0.2.2.2))
else
if (decide (way0 = (6 : Int))) = true then
some (((a0.2.2.1 - (1 : Int)), (a0.2.2.2 - high2), (a0.2.2.1 + wide1), a0.2.2.2))
else
if (decide (way0 = (7 : Int))) = true then
some ((a0.1, (a0.2.2.2 - (1 : Int)), (a0.1 + wide1), (a0.2.2.2 + high2)))
else
some b0
theorem tq_law_second (a0 : (Int × Int × Int × Int)) (b0 : (Int × Int × Int × Int)) (way0 : Int) : QS (RP (e4 eI eI eI eI)) g_law_second [.dat ((e4 eI eI eI eI) a0), .dat ((e4 eI eI eI eI) b0), .dat (eI way0), .un, .un] (t_law_second a0 b0 way0) := by unfold t_law_second; exact (qs_set (qc_op (qc_op (qc_var rfl (qc_pur (qt_tot (eI b0.2.2.1) rfl (qc_op (qc_var rfl (qc_pur (qt_tot (eI b0.1) rfl (qt_tot (eI ((b0.2.2.1 - b0.1))) rfl (qs_let (v := (b0.2.2.1 - b0.1)) (fun wide1 => [.dat ((e4 eI eI eI eI) a0), .dat ((e4 eI eI eI eI) b0), .dat (eI way0), .dat (eI wide1), .un]) fun wide1 => (qs_set (qc_op (qc_op (qc_var rfl (qc_pur (qt_tot (eI b0.2.2.2) rfl (qc_op (qc_var rfl (qc_pur (qt_tot (eI b0.2.1) rfl (qt_tot (eI ((b0.2.2.2 - b0.2.1))) rfl (qs_let (v := (b0.2.2.2 - b0.2.1)) (fun high2 => [.dat ((e4 eI eI eI eI) a0), .dat ((e4 eI eI eI eI) b0), .dat (eI way0), .dat (eI wide1), .dat (eI high2)]) fun high2 => (qs_if (qc_B (qc_op (qc_var rfl (qc_pur (qt_tot (eB ((decide (way0 = (1 : Int))))) rfl ⟨_, rfl, ⟨_, _, rfl, (qs_end (qs_ret (qc_tup (qc_cons (qc_op (qc_var rfl (qc_pur (qt_tot (eI a0.2.2.1) rfl (qc_cons (qc_op (qc_var rfl (qc_pur (qt_tot (eI a0.2.1) rfl (qc_cons (qc_op (qc_op (qc_var rfl (qc_pur (qt_tot (eI a0.2.2.1) rfl (qc_var rfl (qt_tot (eI ((a0.2.2.1 + wide1))) rfl (qc_cons (qc_op (qc_var rfl (qc_pur (qt_tot (eI a0.2.2.2) rfl (qc_nil ⟨(Nat.le_of_ble_eq_true rfl), (fin (nx_rt ⟨_, rfl⟩))⟩))))))))))))))))))))))))))), (qs_skip (qs_if (qc_B (qc_op (qc_var rfl (qc_pur (qt_tot (eB ((decide (way0 = (2 : Int))))) rfl ⟨_, rfl, ⟨_, _, rfl, (qs_end (qs_ret (qc_tup (qc_cons (qc_op (qc_var rfl (qc_pur (qt_tot (eI a0.1) rfl (qc_cons (qc_op (qc_var rfl (qc_pur (qt_tot (eI a0.2.2.2) rfl (qc_cons (qc_op (qc_var rfl (qc_pur (qt_tot (eI a0.2.2.1) rfl (qc_cons (qc_op (qc_op (qc_var rfl (qc_pur (qt_tot (eI a0.2.2.2) rfl (qc_var rfl (qt_tot (eI ((a0.2.2.2 + high2))) rfl (qc_nil ⟨(Nat.le_of_ble_eq_true rfl), (fin (nx_rt ⟨_, rfl⟩))⟩))))))))))))))))))))))))))), (qs_skip (qs_if (qc_B (qc_op (qc_var rfl (qc_pur (qt_tot (eB ((decide (way0 = (3 : Int))))) rfl ⟨_, rfl, ⟨_, _, rfl, (qs_end (qs_ret (qc_tup (qc_cons (qc_op (qc_var rfl (qc_pur (qt_tot (eI a0.2.2.1) rfl (qc_cons (qc_op (qc_var rfl (qc_pur (qt_tot (eI a0.2.2.2) rfl (qc_cons (qc_op (qc_op (qc_var rfl (qc_pur (qt_tot (eI a0.2.2.1) rfl (qc_var rfl (qt_tot (eI ((a0.2.2.1 + wide1))) rfl (qc_cons (qc_op (qc_op (qc_var rfl (qc_pur (qt_tot (eI a0.2.2.2) rfl (qc_var rfl (qt_tot (eI ((a0.2.2.2 + high2))) rfl (qc_nil ⟨(Nat.le_of_ble_eq_true rfl), (fin (nx_rt ⟨_, rfl⟩))⟩)))))))))))))))))))))))))))))), (qs_skip (qs_if (qc_B (qc_op (qc_var rfl (qc_pur (qt_tot (eB ((decide (way0 = (4 : Int))))) rfl ⟨_, rfl, ⟨_, _, rfl, (qs_end (qs_ret (qc_var rfl (fin (nx_rt ⟨_, rfl⟩))))), (qs_skip (qs_if (qc_B (qc_op (qc_var rfl (qc_pur (qt_tot (eB ((decide (way0 = (5 : Int))))) rfl ⟨_, rfl, ⟨_, _, rfl, (qs_end (qs_ret (qc_tup (qc_cons (qc_op (qc_op (qc_var rfl (qc_pur (qt_tot (eI a0.1) rfl (qc_op (qc_call (qc_cons (qc_var rfl (qc_nil (qt_tot (eI wide1) rfl (qc_op (qc_op (qc_var rfl (qc_pur (qt_tot (eI a0.2.2.1) rfl (qc_op (qc_var rfl (qc_pur (qt_tot (eI a0.1) rfl (qt_tot (eI ((a0.2.2.1 - a0.1))) rfl (qt_par (t := modG wide1 ((a0.2.2.1 - a0.1))) eI (fun _ h => mod_ok h) fun r3 => (qt_tot (eI ((a0.1 + r3))) rfl (qc_cons (qc_op (qc_op (qc_var rfl (qc_pur (qt_tot (eI a0.2.1) rfl (qc_op (qc_call (qc_cons (qc_var rfl (qc_nil (qt_tot (eI high2) rfl (qc_op (qc_op (qc_var rfl (qc_pur (qt_tot (eI a0.2.2.2) rfl (qc_op (qc_var rfl (qc_pur (qt_tot (eI a0.2.1) rfl (qt_tot (eI ((a0.2.2.2 - a0.2.1))) rfl (qt_par (t := modG high2 ((a0.2.2.2 - a0.2.1))) eI (fun _ h => mod_ok h) fun r4 => (qt_tot (eI ((a0.2.1 + r4))) rfl (qc_cons (qc_op (qc_var rfl (qc_pur (qt_tot (eI a0.2.2.1) rfl (qc_cons (qc_op (qc_var rfl (qc_pur (qt_tot (eI a0.2.2.2) rfl (qc_nil ⟨(Nat.le_of_ble_eq_true rfl), (fin (nx_rt ⟨_, rfl⟩))⟩)))))))))))))))))))))))))))))))))))))))))))))))))))))))))))))), (qs_skip (qs_if (qc_B (qc_op (qc_var rfl (qc_pur (qt_tot (eB ((decide (way0 = (6 : Int))))) rfl ⟨_, rfl, ⟨_, _, rfl, (qs_end (qs_ret (qc_tup (qc_cons (qc_op (qc_op (qc_var rfl (qc_pur (qt_tot (eI a0.2.2.1) rfl (qc_pur (qt_tot (eI ((a0.2.2.1 - (1 : Int)))) rfl (qc_cons (qc_op (qc_op (qc_var rfl (qc_pur (qt_tot (eI a0.2.2.2) rfl (qc_var rfl (qt_tot (eI ((a0.2.2.2 - high2))) rfl (qc_cons (qc_op (qc_op (qc_var rfl (qc_pur (qt_tot (eI a0.2.2.1) rfl (qc_var rfl (qt_tot (eI ((a0.2.2.1 + wide1))) rfl (qc_cons (qc_op (qc_var rfl (qc_pur (qt_tot (eI a0.2.2.2) rfl (qc_nil ⟨(Nat.le_of_ble_eq_true rfl), (fin (nx_rt ⟨_, rfl⟩))⟩))))))))))))))))))))))))))))))))), (qs_skip (qs_if (qc_B (qc_op (qc_var rfl (qc_pur (qt_tot (eB ((decide (way0 = (7 : Int))))) rfl ⟨_, rfl, ⟨_, _, rfl, (qs_end (qs_ret (qc_tup (qc_cons (qc_op (qc_var rfl (qc_pur (qt_tot (eI a0.1) rfl (qc_cons (qc_op (qc_op (qc_var rfl (qc_pur (qt_tot (eI a0.2.2.2) rfl (qc_pur (qt_tot (eI ((a0.2.2.2 - (1 : Int)))) rfl (qc_cons (qc_op (qc_op (qc_var rfl (qc_pur (qt_tot (eI a0.1) rfl (qc_var rfl (qt_tot (eI ((a0.1 + wide1))) rfl (qc_cons (qc_op (qc_op (qc_var rfl (qc_pur (qt_tot (eI a0.2.2.2) rfl (qc_var rfl (qt_tot (eI ((a0.2.2.2 + high2))) rfl (qc_nil ⟨(Nat.le_of_ble_eq_true rfl), (fin (nx_rt ⟨_, rfl⟩))⟩))))))))))))))))))))))))))))))))), (qs_skip (qs_ret (qc_var rfl (fin ⟨_, rfl⟩))))⟩⟩)))))))⟩⟩)))))))⟩⟩)))))))⟩⟩)))))))⟩⟩)))))))⟩⟩)))))))⟩⟩))))))))))))))))))))))))))))))
theorem tt_law_second {a0 : (Int × Int × Int × Int)} {b0 : (Int × Int × Int × Int)} {way0 : Int} {r : (Int × Int × Int × Int)} (h : t_law_second a0 b0 way0 = some r) : m_law_second [(e4 eI eI eI eI) a0, (e4 eI eI eI eI) b0, eI way0] = some (.ret ((e4 eI eI eI eI) r)) := run_P (ε := [.dat ((e4 eI eI eI eI) a0), .dat ((e4 eI eI eI eI) b0), .dat (eI way0), .un, .un]) rfl (tq_law_second a0 b0 way0) h
def g_law_common : MoS := (mSeq (mIfS (mOr (mB (mOp gGe (mOp gIx (mVar 0) (pur (.int 0))) (mOp gIx (mVar 1) (pur (.int 2))))) (mOr (mB (mOp gGe (mOp gIx (mVar 1) (pur (.int 0))) (mOp gIx (mVar 0) (pur (.int 2))))) (mOr (mB (mOp gGe (mOp gIx (mVar 0) (pur (.int 1))) (mOp gIx (mVar 1) (pur (.int 3))))) (mB (mOp gGe (mOp gIx (mVar 1) (pur (.int 1))) (mOp gIx (mVar 0) (pur (.int 3)))))))) (mRet (pur .non)) mNil)
  (mSeq (mSet 2 (mCall (gOne gSorted) (mCons (mLst (mCons (mOp gIx (mVar 0) (pur (.int 0))) (mCons (mOp gIx (mVar 0) (pur (.int 2))) (mCons (mOp gIx (mVar 1) (pur (.int 0))) (mCons (mOp gIx (mVar 1) (pur (.int 2))) (pur [])))))) (pur []))))
  (mSeq (mSet 3 (mCall (gOne gSorted) (mCons (mLst (mCons (mOp gIx (mVar 0) (pur (.int 1))) (mCons (mOp gIx (mVar 0) (pur (.int 3))) (mCons (mOp gIx (mVar 1) (pur (.int 1))) (mCons (mOp gIx (mVar 1) (pur (.int 3))) (pur [])))))) (pur []))))
  (mRet (mTup (mCons (mOp gIx (mVar 2) (pur (.int 1))) (mCons (mOp gIx (mVar 3) (pur (.int 1))) (mCons (mOp gIx (mVar 2) (pur (.int 2))) (mCons (mOp gIx (mVar 3) (pur (.int 2))) (pur []))))))))))
def m_law_common : List D → Option Ans := runP 4 g_law_common
theorem ok_law_common (T : Txt P w K mg) : FnOk P w K mg base (CXX P w) 1 T.f_law_common T.d_law_common ["a", "b"] (SpP K 2 m_law_common) := by
  exact fn_P (g := g_law_common) T.F_law_common sc_law_common (fun cdv A outer s H E C hA hr tk => (ss_cons (st_if (te_w (tw_or (te_cmp op_ge (nomark _) (vop_I0 fun _ _ _ => .bl _) (ev_item (fun _ _ => rfl) (ev_var 0 (pv 0)) ev_int) (ev_item (fun _ _ => rfl) (ev_var 1 (pv 1)) ev_int)) (tw_or (te_cmp op_ge (nomark _) (vop_I0 fun _ _ _ => .bl _) (ev_item (fun _ _ => rfl) (ev_var 1 (pv 1)) ev_int) (ev_item (fun _ _ => rfl) (ev_var 0 (pv 0)) ev_int)) (tw_or (te_cmp op_ge (nomark _) (vop_I0 fun _ _ _ => .bl _) (ev_item (fun _ _ => rfl) (ev_var 0 (pv 0)) ev_int) (ev_item (fun _ _ => rfl) (ev_var 1 (pv 1)) ev_int)) (tw_or1 (te_cmp op_ge (nomark _) (vop_I0 fun _ _ _ => .bl _) (ev_item (fun _ _ => rfl) (ev_var 1 (pv 1)) ev_int) (ev_item (fun _ _ => rfl) (ev_var 0 (pv 0)) ev_int))))))) (ss_one (st_ret ev_non)) ss_nil)
      (ss_cons (st_set (fun _ p => ps_set (i := 2) sc_law_common.nd rfl (by first | exact Or.inl rfl | exact Or.inr rfl) p) (ev_cb vc_sorted (ea_cons (ev_lst (ea_cons (ev_item (fun _ _ => rfl) (ev_var 0 (pv 0)) ev_int) (ea_cons (ev_item (fun _ _ => rfl) (ev_var 0 (pv 0)) ev_int) (ea_cons (ev_item (fun _ _ => rfl) (ev_var 1 (pv 1)) ev_int) (ea_cons (ev_item (fun _ _ => rfl) (ev_var 1 (pv 1)) ev_int) ea_nil))))) ea_nil) fun _ p => pe_callB cr_sortedI (by rfl) T.z_sorted (by decide +kernel) p))
      (ss_cons (st_set (fun _ p => ps_set (i := 3) sc_law_common.nd rfl (by first | exact Or.inl rfl | exact Or.inr rfl) p) (ev_cb vc_sorted (ea_cons (ev_lst (ea_cons (ev_item (fun _ _ => rfl) (ev_var 0 (pv 0)) ev_int) (ea_cons (ev_item (fun _ _ => rfl) (ev_var 0 (pv 0)) ev_int) (ea_cons (ev_item (fun _ _ => rfl) (ev_var 1 (pv 1)) ev_int) (ea_cons (ev_item (fun _ _ => rfl) (ev_var 1 (pv 1)) ev_int) ea_nil))))) ea_nil) fun _ p => pe_callB cr_sortedI (by rfl) T.z_sorted (by decide +kernel) p))
      (ss_one (st_ret (ev_tup (ea_cons (ev_item (fun _ _ => rfl) (ev_var 2 (pv 2)) ev_int) (ea_cons (ev_item (fun _ _ => rfl) (ev_var 3 (pv 3)) ev_int) (ea_cons (ev_item (fun _ _ => rfl) (ev_var 2 (pv 2)) ev_int) (ea_cons (ev_item (fun _ _ => rfl) (ev_var 3 (pv 3)) ev_int) ea_nil))))))))))) (fun _ _ _ h => h)
@[irreducible] noncomputable def t_law_common (a0 : (Int × Int × Int × Int)) (b0 : (Int × Int × Int × Int)) : Option (Option (Int × Int × Int × Int)) :=
if ((decide (b0.2.2.1 ≤ a0.1)) || ((decide (a0.2.2.1 ≤ b0.1)) || ((decide (b0.2.2.2 ≤ a0.2.1)) || (decide (a0.2.2.2 ≤ b0.2.1))))) = true then
some ((none : (Option (Int × Int × Int × Int))))
else
letO ((sortI ([a0.1, a0.2.2.1, b0.1, b0.2.2.1])) : (List Int)) fun xs1 =>
letO ((sortI ([a0.2.1, a0.2.2.2, b0.2.1, b0.2.2.2])) : (List Int)) fun ys2 =>
(atI xs1 ((1 : Int))).bind fun it3 =>
(atI ys2 ((1 : Int))).bind fun it4 =>
(atI xs1 ((2 : Int))).bind fun it5 =>
(atI ys2 ((2 : Int))).bind fun it6 =>
some ((some ((it3, it4, it5, it6))))
theorem tq_law_common (a0 : (Int × Int × Int × Int)) (b0 : (Int × Int × Int × Int)) : QS (RP (eO (e4 eI eI eI eI))) g_law_common [.dat ((e4 eI eI eI eI) a0), .dat ((e4 eI eI eI eI) b0), .un, .un] (t_law_common a0 b0) := by unfold t_law_common; exact (qs_if (qc_or (qc_B (qc_op (qc_op (qc_var rfl (qc_pur (qt_tot (eI a0.1) rfl (qc_op (qc_var rfl (qc_pur (qt_tot (eI b0.2.2.1) rfl (qt_tot (eB ((decide (b0.2.2.1 ≤ a0.1)))) rfl ⟨_, rfl, ⟨_, (fun _ => (qc_or (qc_B (qc_op (qc_op (qc_var rfl (qc_pur (qt_tot (eI b0.1) rfl (qc_op (qc_var rfl (qc_pur (qt_tot (eI a0.2.2.1) rfl (qt_tot (eB ((decide (a0.2.2.1 ≤ b0.1)))) rfl ⟨_, rfl, ⟨_, (fun _ => (qc_or (qc_B (qc_op (qc_op (qc_var rfl (qc_pur (qt_tot (eI a0.2.1) rfl (qc_op (qc_var rfl (qc_pur (qt_tot (eI b0.2.2.2) rfl (qt_tot (eB ((decide (b0.2.2.2 ≤ a0.2.1)))) rfl ⟨_, rfl, ⟨_, (fun _ => (qc_B (qc_op (qc_op (qc_var rfl (qc_pur (qt_tot (eI b0.2.1) rfl (qc_op (qc_var rfl (qc_pur (qt_tot (eI a0.2.2.2) rfl (qt_tot (eB ((decide (a0.2.2.2 ≤ b0.2.1)))) rfl ⟨_, rfl, ⟨rfl, rfl, rfl⟩⟩)))))))))))), ⟨rfl, rfl, rfl⟩⟩⟩))))))))))))), ⟨rfl, rfl, rfl⟩⟩⟩))))))))))))), ⟨_, _, rfl, (qs_end (qs_ret (qc_pur (fin (nx_rt ⟨_, rfl⟩))))), (qs_skip (qs_set (qc_call (qc_cons (qc_lst (qc_cons (qc_op (qc_var rfl (qc_pur (qt_tot (eI a0.1) rfl (qc_cons (qc_op (qc_var rfl (qc_pur (qt_tot (eI a0.2.2.1) rfl (qc_cons (qc_op (qc_var rfl (qc_pur (qt_tot (eI b0.1) rfl (qc_cons (qc_op (qc_var rfl (qc_pur (qt_tot (eI b0.2.2.1) rfl (qc_nil ⟨(Nat.le_of_ble_eq_true rfl), (qc_nil (qt_tot ((eL eI) ((sortI ([a0.1, a0.2.2.1, b0.1, b0.2.2.1])))) (sorted_eq ([a0.1, a0.2.2.1, b0.1, b0.2.2.1])) (qs_let (v := (sortI ([a0.1, a0.2.2.1, b0.1, b0.2.2.1]))) (fun xs1 => [.dat ((e4 eI eI eI eI) a0), .dat ((e4 eI eI eI eI) b0), .dat ((eL eI) xs1), .un]) fun xs1 => (qs_set (qc_call (qc_cons (qc_lst (qc_cons (qc_op (qc_var rfl (qc_pur (qt_tot (eI a0.2.1) rfl (qc_cons (qc_op (qc_var rfl (qc_pur (qt_tot (eI a0.2.2.2) rfl (qc_cons (qc_op (qc_var rfl (qc_pur (qt_tot (eI b0.2.1) rfl (qc_cons (qc_op (qc_var rfl (qc_pur (qt_tot (eI b0.2.2.2) rfl (qc_nil ⟨(Nat.le_of_ble_eq_true rfl), (qc_nil (qt_tot ((eL eI) ((sortI ([a0.2.1, a0.2.2.2, b0.2.1, b0.2.2.2])))) (sorted_eq ([a0.2.1, a0.2.2.2, b0.2.1, b0.2.2.2])) (qs_let (v := (sortI ([a0.2.1, a0.2.2.2, b0.2.1, b0.2.2.2]))) (fun ys2 => [.dat ((e4 eI eI eI eI) a0), .dat ((e4 eI eI eI eI) b0), .dat ((eL eI) xs1), .dat ((eL eI) ys2)]) fun ys2 => (qs_ret (qc_tup (qc_cons (qc_op (qc_var rfl (qc_pur (qt_par (t := atI xs1 ((1 : Int))) eI (fun _ h => ixL_ok (e := eI) (xs := xs1) h) fun it3 => (qc_cons (qc_op (qc_var rfl (qc_pur (qt_par (t := atI ys2 ((1 : Int))) eI (fun _ h => ixL_ok (e := eI) (xs := ys2) h) fun it4 => (qc_cons (qc_op (qc_var rfl (qc_pur (qt_par (t := atI xs1 ((2 : Int))) eI (fun _ h => ixL_ok (e := eI) (xs := xs1) h) fun it5 => (qc_cons (qc_op (qc_var rfl (qc_pur (qt_par (t := atI ys2 ((2 : Int))) eI (fun _ h => ixL_ok (e := eI) (xs := ys2) h) fun it6 => (qc_nil ⟨(Nat.le_of_ble_eq_true rfl), (fin ⟨_, rfl⟩)⟩))))))))))))))))))))))))))⟩))))))))))))))))))))))))))))⟩))))))))))))))))))))))))))⟩⟩⟩)))))))))))))
theorem tt_law_common {a0 : (Int × Int × Int × Int)} {b0 : (Int × Int × Int × Int)} {r : (Option (Int × Int × Int × Int))} (h : t_law_common a0 b0 = some r) : m_law_common [(e4 eI eI eI eI) a0, (e4 eI eI eI eI) b0] = some (.ret ((eO (e4 eI eI eI eI)) r)) := run_P (ε := [.dat ((e4 eI eI eI eI) a0), .dat ((e4 eI eI eI eI) b0), .un, .un]) rfl (tq_law_common a0 b0) h
def bd_law_hull_1 : MoS := (mPost [] [2, 3, 4, 5] (mSeq (mPost [] [] (mIfS (mB (mOp (gIsN false) (mVar 1) (pur .non))) (mSet 1 (mVar 2)) mNil))
  (mSeq (mSet 3 (mIf (mB (mOp gLt (mOp gIx (mVar 2) (pur (.int 0))) (mOp gIx (mVar 1) (pur (.int 0))))) (mOp gIx (mVar 2) (pur (.int 0))) (mOp gIx (mVar 1) (pur (.int 0)))))
  (mSeq (mSet 4 (mIf (mB (mOp gLt (mOp gIx (mVar 2) (pur (.int 1))) (mOp gIx (mVar 1) (pur (.int 1))))) (mOp gIx (mVar 2) (pur (.int 1))) (mOp gIx (mVar 1) (pur (.int 1)))))
  (mSeq (mSet 5 (mIf (mB (mOp gGt (mOp gIx (mVar 2) (pur (.int 2))) (mOp gIx (mVar 1) (pur (.int 2))))) (mOp gIx (mVar 2) (pur (.int 2))) (mOp gIx (mVar 1) (pur (.int 2)))))
  (mSet 1 (mTup (mCons (mVar 3) (mCons (mVar 4) (mCons (mVar 5) (mCons (mIf (mB (mOp gGt (mOp gIx (mVar 2) (pur (.int 3))) (mOp gIx (mVar 1) (pur (.int 3))))) (mOp gIx (mVar 2) (pur (.int 3))) (mOp gIx (mVar 1) (pur (.int 3)))) (pur []))))))))))))
def g_law_hull : MoS := (mSeq (mSet 1 (pur .non))
  (mSeq (mFor (bnd (mVar 0) fun d => lft (lstOf d)) (gdName 2) bd_law_hull_1)
  (mRet (mVar 1))))
def m_law_hull : List D → Option Ans := runP 6 g_law_hull
theorem ok_law_hull (T : Txt P w K mg) : FnOk P w K mg base (CXX P w) 1 T.f_law_hull T.d_law_hull ["rows"] (SpP K 1 m_law_hull) := by
  exact fn_P (g := g_law_hull) T.F_law_hull sc_law_hull (fun cdv A outer s H E C hA hr tk => (ss_cons (st_set (fun _ p => ps_set (i := 1) sc_law_hull.nd rfl (by first | exact Or.inl rfl | exact Or.inr rfl) p) ev_non)
      (ss_cons (st_for (ei_list (ev_var 0 (pv 0))) (ss_post [] [2, 3, 4, 5] (ss_cons (st_post [] [] (st_if (te_cmp op_isN (nomark _) vop_isN (ev_var 1 (pv 1)) ev_non) (ss_one (st_set (fun _ p => ps_set (i := 1) sc_law_hull.nd rfl (by first | exact Or.inl rfl | exact Or.inr rfl) p) (ev_var 2 (pv 2)))) ss_nil))
      (ss_cons (st_set (fun _ p => ps_set (i := 3) sc_law_hull.nd rfl (by first | exact Or.inl rfl | exact Or.inr rfl) p) (ev_if (te_cmp op_lt (nomark _) (vop_I0 fun _ _ _ => .bl _) (ev_item (fun _ _ => rfl) (ev_var 2 (pv 2)) ev_int) (ev_item (fun _ _ => rfl) (ev_var 1 (pv 1)) ev_int)) (ev_item (fun _ _ => rfl) (ev_var 2 (pv 2)) ev_int) (ev_item (fun _ _ => rfl) (ev_var 1 (pv 1)) ev_int)))
      (ss_cons (st_set (fun _ p => ps_set (i := 4) sc_law_hull.nd rfl (by first | exact Or.inl rfl | exact Or.inr rfl) p) (ev_if (te_cmp op_lt (nomark _) (vop_I0 fun _ _ _ => .bl _) (ev_item (fun _ _ => rfl) (ev_var 2 (pv 2)) ev_int) (ev_item (fun _ _ => rfl) (ev_var 1 (pv 1)) ev_int)) (ev_item (fun _ _ => rfl) (ev_var 2 (pv 2)) ev_int) (ev_item (fun _ _ => rfl) (ev_var 1 (pv 1)) ev_int)))
      (ss_cons (st_set (fun _ p => ps_set (i := 5) sc_law_hull.nd rfl (by first | exact Or.inl rfl | exact Or.inr rfl) p) (ev_if (te_cmp op_gt (nomark _) (vop_I0 fun _ _ _ => .bl _) (ev_item (fun _ _ => rfl) (ev_var 2 (pv 2)) ev_int) (ev_item (fun _ _ => rfl) (ev_var 1 (pv 1)) ev_int)) (ev_item (fun _ _ => rfl) (ev_var 2 (pv 2)) ev_int) (ev_item (fun _ _ => rfl) (ev_var 1 (pv 1)) ev_int)))
      (ss_one (st_set (fun _ p => ps_set (i := 1) sc_law_hull.nd rfl (by first | exact Or.inl rfl | exact Or.inr rfl) p) (ev_tup (ea_cons (ev_var 3 (pv 3)) (ea_cons (ev_var 4 (pv 4)) (ea_cons (ev_var 5 (pv 5)) (ea_cons (ev_if (te_cmp op_gt (nomark _) (vop_I0 fun _ _ _ => .bl _) (ev_item (fun _ _ => rfl) (ev_var 2 (pv 2)) ev_int) (ev_item (fun _ _ => rfl) (ev_var 1 (pv 1)) ev_int)) (ev_item (fun _ _ => rfl) (ev_var 2 (pv 2)) ev_int) (ev_item (fun _ _ => rfl) (ev_var 1 (pv 1)) ev_int)) ea_nil)))))))))))) (sg_name (i := 2)) fun _ _ p q => ps_for (passes_of rfl) rfl p (pg_name (i := 2) sc_law_hull.nd rfl (by first | exact Or.inl rfl | exact Or.inr rfl)) q)
      (ss_one (st_ret (ev_var 1 (pv 1))))))) (fun _ _ _ h => h)
@[irreducible] noncomputable def u_law_hull_1  : (Int × Int × Int × Int) → ((Option (Int × Int × Int × Int))) → Option ((Option (Int × Int × Int × Int))) := fun (a3 : (Int × Int × Int × Int)) (s2 : ((Option (Int × Int × Int × Int)))) =>
(if s2.isNone = true then
letO ((some a3) : (Option (Int × Int × Int × Int))) fun hull5 =>
some hull5
else
some s2).bind fun s4 =>
s4.bind fun w6 =>
(if (decide (a3.1 < w6.1)) = true then (some a3.1) else s4.bind fun w7 =>
(some w7.1)).bind fun y8 =>
s4.bind fun w9 =>
(if (decide (a3.2.1 < w9.2.1)) = true then (some a3.2.1) else s4.bind fun w10 =>
(some w10.2.1)).bind fun y11 =>
s4.bind fun w12 =>
(if (decide (w12.2.2.1 < a3.2.2.1)) = true then (some a3.2.2.1) else s4.bind fun w13 =>
(some w13.2.2.1)).bind fun y14 =>
s4.bind fun w15 =>
(if (decide (w15.2.2.2 < a3.2.2.2)) = true then (some a3.2.2.2) else s4.bind fun w16 =>
(some w16.2.2.2)).bind fun y17 =>
letO ((some ((y8, y11, y14, y17))) : (Option (Int × Int × Int × Int))) fun hull18 =>
some hull18
@[irreducible] noncomputable def t_law_hull (rows0 : (List (Int × Int × Int × Int))) : Option (Option (Int × Int × Int × Int)) :=
letO ((none : (Option (Int × Int × Int × Int))) : (Option (Int × Int × Int × Int))) fun hull1 =>
(foldO u_law_hull_1 rows0 hull1).bind fun s2 =>
some s2
theorem tq_law_hull (rows0 : (List (Int × Int × Int × Int))) : QS (RP (eO (e4 eI eI eI eI))) g_law_hull [.dat ((eL (e4 eI eI eI eI)) rows0), .un, .un, .un, .un, .un] (t_law_hull rows0) := by unfold t_law_hull; exact (qs_set (qc_pur (qs_let (v := (none : (Option (Int × Int × Int × Int)))) (fun hull1 => [.dat ((eL (e4 eI eI eI eI)) rows0), .dat ((eO (e4 eI eI eI eI)) hull1), .un, .un, .un, .un]) fun hull1 => (qs_for (qc_bnd (qc_var rfl (qc_lft (qt_tot _ rfl ⟨_, _, rows0, (e4 eI eI eI eI), hull1, (fun s2 : ((Option (Int × Int × Int × Int))) => [.dat ((eL (e4 eI eI eI eI)) rows0), .dat ((eO (e4 eI eI eI eI)) s2), .un, .un, .un, .un]), u_law_hull_1, _, rfl, rfl, rfl, (fun a3 s2 => ⟨_, rfl, by unfold u_law_hull_1; exact qs_fr (ε' := [.dat ((eL (e4 eI eI eI eI)) rows0), .dat ((eO (e4 eI eI eI eI)) s2), .dat ((e4 eI eI eI eI) a3), .un, .un, .un]) rfl (qs_tidyC (is := []) (js := [2, 3, 4, 5]) (qs_post (is := []) (js := []) (fun s4 => [.dat ((eL (e4 eI eI eI eI)) rows0), .dat ((eO (e4 eI eI eI eI)) s4), .dat ((e4 eI eI eI eI) a3), .un, .un, .un]) (qs_last (qs_if (qc_B (qc_op (qc_var rfl (qc_pur (qt_tot (eB s2.isNone) (isN_eq (fun _ => rfl) _) ⟨_, rfl, ⟨_, _, rfl, qs_unlast (qs_last (qs_set (qc_var rfl (qs_let (v := (some a3)) (fun hull5 => [.dat ((eL (e4 eI eI eI eI)) rows0), .dat ((eO (e4 eI eI eI eI)) hull5), .dat ((e4 eI eI eI eI) a3), .un, .un, .un]) fun hull5 => (qs_nil (fin ⟨_, rfl, rfl⟩)))))), qs_unlast (qs_nil (fin ⟨_, rfl, rfl⟩))⟩⟩))))))) fun s4 => (qs_set (qc_if (qc_B (qc_op (qc_op (qc_var rfl (qc_pur (qt_tot (eI a3.1) rfl (qc_op (qc_var rfl (qc_pur (qt_opt fun w6 => (qt_tot (eI w6.1) rfl (qt_tot (eB ((decide (a3.1 < w6.1)))) rfl ⟨_, rfl, ⟨_, _, _, _, (fun y8 => eI y8), (fun y8 => [.dat ((eL (e4 eI eI eI eI)) rows0), .dat ((eO (e4 eI eI eI eI)) s4), .dat ((e4 eI eI eI eI) a3), .un, .un, .un]), rfl, (qc_op (qc_var rfl (qc_pur (qt_tot (eI a3.1) rfl ⟨_, rfl, rfl, rfl⟩)))), (qc_op (qc_var rfl (qc_pur (qt_opt fun w7 => (qt_tot (eI w7.1) rfl ⟨_, rfl, rfl, rfl⟩))))), fun y8 => (qs_fr (ε' := [.dat ((eL (e4 eI eI eI eI)) rows0), .dat ((eO (e4 eI eI eI eI)) s4), .dat ((e4 eI eI eI eI) a3), .dat (eI y8), .un, .un]) rfl (qs_set (qc_if (qc_B (qc_op (qc_op (qc_var rfl (qc_pur (qt_tot (eI a3.2.1) rfl (qc_op (qc_var rfl (qc_pur (qt_opt fun w9 => (qt_tot (eI w9.2.1) rfl (qt_tot (eB ((decide (a3.2.1 < w9.2.1)))) rfl ⟨_, rfl, ⟨_, _, _, _, (fun y11 => eI y11), (fun y11 => [.dat ((eL (e4 eI eI eI eI)) rows0), .dat ((eO (e4 eI eI eI eI)) s4), .dat ((e4 eI eI eI eI) a3), .dat (eI y8), .un, .un]), rfl, (qc_op (qc_var rfl (qc_pur (qt_tot (eI a3.2.1) rfl ⟨_, rfl, rfl, rfl⟩)))), (qc_op (qc_var rfl (qc_pur (qt_opt fun w10 => (qt_tot (eI w10.2.1) rfl ⟨_, rfl, rfl, rfl⟩))))), fun y11 => (qs_fr (ε' := [.dat ((eL (e4 eI eI eI eI)) rows0), .dat ((eO (e4 eI eI eI eI)) s4), .dat ((e4 eI eI eI eI) a3), .dat (eI y8), .dat (eI y11), .un]) rfl (qs_set (qc_if (qc_B (qc_op (qc_op (qc_var rfl (qc_pur (qt_tot (eI a3.2.2.1) rfl (qc_op (qc_var rfl (qc_pur (qt_opt fun w12 => (qt_tot (eI w12.2.2.1) rfl (qt_tot (eB ((decide (w12.2.2.1 < a3.2.2.1)))) rfl ⟨_, rfl, ⟨_, _, _, _, (fun y14 => eI y14), (fun y14 => [.dat ((eL (e4 eI eI eI eI)) rows0), .dat ((eO (e4 eI eI eI eI)) s4), .dat ((e4 eI eI eI eI) a3), .dat (eI y8), .dat (eI y11), .un]), rfl, (qc_op (qc_var rfl (qc_pur (qt_tot (eI a3.2.2.1) rfl ⟨_, rfl, rfl, rfl⟩)))), (qc_op (qc_var rfl (qc_pur (qt_opt fun w13 => (qt_tot (eI w13.2.2.1) rfl ⟨_, rfl, rfl, rfl⟩))))), fun y14 => (qs_fr (ε' := [.dat ((eL (e4 eI eI eI eI)) rows0), .dat ((eO (e4 eI eI eI eI)) s4), .dat ((e4 eI eI eI eI) a3), .dat (eI y8), .dat (eI y11), .dat (eI y14)]) rfl (qs_last (qs_set (qc_tup (qc_cons (qc_var rfl (qc_cons (qc_var rfl (qc_cons (qc_var rfl (qc_cons (qc_if (qc_B (qc_op (qc_op (qc_var rfl (qc_pur (qt_tot (eI a3.2.2.2) rfl (qc_op (qc_var rfl (qc_pur (qt_opt fun w15 => (qt_tot (eI w15.2.2.2) rfl (qt_tot (eB ((decide (w15.2.2.2 < a3.2.2.2)))) rfl ⟨_, rfl, ⟨_, _, _, _, (fun y17 => eI y17), (fun y17 => [.dat ((eL (e4 eI eI eI eI)) rows0), .dat ((eO (e4 eI eI eI eI)) s4), .dat ((e4 eI eI eI eI) a3), .dat (eI y8), .dat (eI y11), .dat (eI y14)]), rfl, (qc_op (qc_var rfl (qc_pur (qt_tot (eI a3.2.2.2) rfl ⟨_, rfl, rfl, rfl⟩)))), (qc_op (qc_var rfl (qc_pur (qt_opt fun w16 => (qt_tot (eI w16.2.2.2) rfl ⟨_, rfl, rfl, rfl⟩))))), fun y17 => (qc_nil ⟨(Nat.le_of_ble_eq_true rfl), (qs_let (v := (some ((y8, y11, y14, y17)))) (fun hull18 => [.dat ((eL (e4 eI eI eI eI)) rows0), .dat ((eO (e4 eI eI eI eI)) hull18), .dat ((e4 eI eI eI eI) a3), .dat (eI y8), .dat (eI y11), .dat (eI y14)]) fun hull18 => (qs_nil (fin ⟨_, .inl rfl, rfl⟩)))⟩)⟩⟩))))))))))))))))))))))))⟩⟩)))))))))))))))⟩⟩)))))))))))))))⟩⟩))))))))))))))))⟩), fun s2 => (qs_ret (qc_var rfl (fin ⟨_, rfl⟩)))⟩))))))))
theorem tt_law_hull {rows0 : (List (Int × Int × Int × Int))} {r : (Option (Int × Int × Int × Int))} (h : t_law_hull rows0 = some r) : m_law_hull [(eL (e4 eI eI eI eI)) rows0] = some (.ret ((eO (e4 eI eI eI eI)) r)) := run_P (ε := [.dat ((eL (e4 eI eI eI eI)) rows0), .un, .un, .un, .un, .un]) rfl (tq_law_hull rows0) h
def bd_law_things_1 : MoS := (mPost [] [4, 5] (mSeq (mSet 5 (mLenD 2))
  (mDPutT 2 (mOp gIx (mTup (mCons (mVar 5) (mCons (mOp gCatS (pur (.str (Str.ofString "t"))) (mCall (gOne gStr) (mCons (mVar 5) (pur [])))) (mCons (pur .non) (mCons (mTup (mCons (pur (.int 0)) (mCons (mVar 5) (mCons (pur (.int 0)) (mCons (pur (.int 255)) (pur [])))))) (mCons (mUn gNeg (mVar 5)) (mCons (pur (.bl true)) (pur [])))))))) (mOp gMod (mCall (gOne gInt) (mCons (mOp gIx (mVar 0) (mOp gMod (mCall (gOne gInt) (mCons (mVar 5) (pur []))) (pur (.int 63)))) (pur []))) (pur (.int 6)))) (mCons (mVar 4) (mCons (mVar 3) (pur []))))))
def bd_law_things_2 : MoS := (mPost [] [3] (mFor (bnd (mCons (mOp gIx (mVar 1) (pur (.int 0))) (mCons (mOp gIx (mVar 1) (pur (.int 2))) (pur []))) fun ds => lft (rngFar ds)) (gdName 4) bd_law_things_1))
def g_law_things : MoS := (mSeq (mNewB 2 (.dt []))
  (mSeq (mFor (bnd (mCons (mOp gIx (mVar 1) (pur (.int 1))) (mCons (mOp gIx (mVar 1) (pur (.int 3))) (pur []))) fun ds => lft (rngFar ds)) (gdName 3) bd_law_things_2)
  (mPre [2] (mRet (mVar 2)))))
def m_law_things : List D → Option Ans := runP 6 g_law_things
theorem ok_law_things (T : Txt P w K mg) : FnOk P w K mg base (CXX P w) 1 T.f_law_things T.d_law_things ["mixed", "rect"] (SpP K 2 m_law_things) := by
  exact fn_P (g := g_law_things) T.F_law_things sc_law_things (fun cdv A outer s H E C hA hr tk => (ss_cons (st_newT (fun _ p => ps_set (i := 2) sc_law_things.nd rfl (by first | exact Or.inl rfl | exact Or.inr rfl) p))
      (ss_cons (st_for (ei_far (ea_cons (ev_item (fun _ _ => rfl) (ev_var 1 (pv 1)) ev_int) (ea_cons (ev_item (fun _ _ => rfl) (ev_var 1 (pv 1)) ev_int) ea_nil)) fun _ p => pi_far (by rfl) T.z_range p) (ss_post [] [3] (ss_one (st_for (ei_far (ea_cons (ev_item (fun _ _ => rfl) (ev_var 1 (pv 1)) ev_int) (ea_cons (ev_item (fun _ _ => rfl) (ev_var 1 (pv 1)) ev_int) ea_nil)) fun _ p => pi_far (by rfl) T.z_range p) (ss_post [] [4, 5] (ss_cons (st_set (fun _ p => ps_set (i := 5) sc_law_things.nd rfl (by first | exact Or.inl rfl | exact Or.inr rfl) p) (ev_lenD (i := 2) (pe_callB call_len_dT (by rfl) T.z_len PySem.boot_len (pa_cons (pv 2) pa_nil))))
      (ss_one (st_dputT (i := 2) (fun _ _ p q => ps_dput (hu_of hr) (pv 2) (pe_tup q) p rfl) (ev_item (fun _ _ => rfl) (ev_tup (ea_cons (ev_var 5 (pv 5)) (ea_cons (ev_op op_add_str vop_catS ev_str (ev_cb vc_str (ea_cons (ev_var 5 (pv 5)) ea_nil) fun _ p => pe_callTy call_str_int (by rfl) T.z_str (by decide +kernel) p)) (ea_cons ev_non (ea_cons (ev_tup (ea_cons ev_int (ea_cons (ev_var 5 (pv 5)) (ea_cons ev_int (ea_cons ev_int ea_nil))))) (ea_cons (ev_neg (ev_var 5 (pv 5))) (ea_cons ev_bl ea_nil))))))) (ev_mod (ev_cb vc_int (ea_cons (ev_item (fun _ _ => rfl) (ev_var 0 (pv 0)) (ev_mod (ev_cb vc_int (ea_cons (ev_var 5 (pv 5)) ea_nil) fun _ p => pe_callTy call_int1 (by rfl) T.z_int (by decide +kernel) p) ev_int)) ea_nil) fun _ p => pe_callTy call_int1 (by rfl) T.z_int (by decide +kernel) p) ev_int)) (ea_cons (ev_var 4 (pv 4)) (ea_cons (ev_var 3 (pv 3)) ea_nil)))))) (sg_name (i := 4)) fun _ _ p q => ps_for (passes_of rfl) rfl p (pg_name (i := 4) sc_law_things.nd rfl (by first | exact Or.inl rfl | exact Or.inr rfl)) q))) (sg_name (i := 3)) fun _ _ p q => ps_for (passes_of rfl) rfl p (pg_name (i := 3) sc_law_things.nd rfl (by first | exact Or.inl rfl | exact Or.inr rfl)) q)
      (ss_one (st_pre [2] (st_ret (ev_var 2 (pv 2)))))))) (fun _ _ _ h => h)
@[irreducible] noncomputable def u_law_things_1 (mixed0 : (List Int)) (a2 : Int) : Int → ((List ((Int × Int) × D))) → Option ((List ((Int × Int) × D))) := fun (a4 : Int) (s3 : ((List ((Int × Int) × D)))) =>
letO ((s3.length : Int) : Int) fun k5 =>
(strG k5).bind fun s6 =>
(catSG ((Str.ofString "t")) s6).bind fun s7 =>
(atI mixed0 ((k5 % (63 : Int)))).bind fun it8 =>
(atI ([(eI (((k5, s7, (), ((0 : Int), k5, (0 : Int), (255 : Int)), (-k5), true)).1)), (eS (((k5, s7, (), ((0 : Int), k5, (0 : Int), (255 : Int)), (-k5), true)).2.1)), (eN (((k5, s7, (), ((0 : Int), k5, (0 : Int), (255 : Int)), (-k5), true)).2.2.1)), ((e4 eI eI eI eI) (((k5, s7, (), ((0 : Int), k5, (0 : Int), (255 : Int)), (-k5), true)).2.2.2.1)), (eI (((k5, s7, (), ((0 : Int), k5, (0 : Int), (255 : Int)), (-k5), true)).2.2.2.2.1)), (eB (((k5, s7, (), ((0 : Int), k5, (0 : Int), (255 : Int)), (-k5), true)).2.2.2.2.2))]) ((it8 % (6 : Int)))).bind fun it9 =>
(putDG s3 (a4, a2) it9).bind fun things10 =>
some things10
@[irreducible] noncomputable def u_law_things_2 (mixed0 : (List Int)) (rect0 : (Int × Int × Int × Int)) : Int → ((List ((Int × Int) × D))) → Option ((List ((Int × Int) × D))) := fun (a2 : Int) (s1 : ((List ((Int × Int) × D)))) =>
(foldO (u_law_things_1 mixed0 a2) ((rngI rect0.1 (rect0.2.2.1 - rect0.1).toNat)) s1).bind fun s3 =>
some s3
@[irreducible] noncomputable def t_law_things (mixed0 : (List Int)) (rect0 : (Int × Int × Int × Int)) : Option (List ((Int × Int) × D)) :=
(foldO (u_law_things_2 mixed0 rect0) ((rngI rect0.2.1 (rect0.2.2.2 - rect0.2.1).toNat)) ([])).bind fun s1 =>
some s1
theorem tq_law_things (mixed0 : (List Int)) (rect0 : (Int × Int × Int × Int)) : QS (RP (eDt eD)) g_law_things [.dat ((eL eI) mixed0), .dat ((e4 eI eI eI eI) rect0), .un, .un, .un, .un] (t_law_things mixed0 rect0) := by unfold t_law_things; exact (qs_newT (qs_fr (ε' := [.dat ((eL eI) mixed0), .dat ((e4 eI eI eI eI) rect0), .od (.dt (eQ eD ([]))), .un, .un, .un]) rfl (qs_for (qc_bnd (qc_cons (qc_op (qc_var rfl (qc_pur (qt_tot (eI rect0.2.1) rfl (qc_cons (qc_op (qc_var rfl (qc_pur (qt_tot (eI rect0.2.2.2) rfl (qc_nil (qc_lft (qt_tot _ (rngFar_eq rect0.2.1 rect0.2.2.2) ⟨_, _, (rngI rect0.2.1 (rect0.2.2.2 - rect0.2.1).toNat), eI, [], (fun s1 : ((List ((Int × Int) × D))) => [.dat ((eL eI) mixed0), .dat ((e4 eI eI eI eI) rect0), .od (.dt (eQ eD s1)), .un, .un, .un]), (u_law_things_2 mixed0 rect0), _, rfl, rfl, rfl, (fun a2 s1 => ⟨_, rfl, by unfold u_law_things_2; exact qs_fr (ε' := [.dat ((eL eI) mixed0), .dat ((e4 eI eI eI eI) rect0), .od (.dt (eQ eD s1)), .dat (eI a2), .un, .un]) rfl (qs_tidyC (is := []) (js := [3]) (qs_last (qs_for (qc_bnd (qc_cons (qc_op (qc_var rfl (qc_pur (qt_tot (eI rect0.1) rfl (qc_cons (qc_op (qc_var rfl (qc_pur (qt_tot (eI rect0.2.2.1) rfl (qc_nil (qc_lft (qt_tot _ (rngFar_eq rect0.1 rect0.2.2.1) ⟨_, _, (rngI rect0.1 (rect0.2.2.1 - rect0.1).toNat), eI, s1, (fun s3 : ((List ((Int × Int) × D))) => [.dat ((eL eI) mixed0), .dat ((e4 eI eI eI eI) rect0), .od (.dt (eQ eD s3)), .dat (eI a2), .un, .un]), (u_law_things_1 mixed0 a2), _, rfl, rfl, rfl, (fun a4 s3 => ⟨_, rfl, by unfold u_law_things_1; exact qs_fr (ε' := [.dat ((eL eI) mixed0), .dat ((e4 eI eI eI eI) rect0), .od (.dt (eQ eD s3)), .dat (eI a2), .dat (eI a4), .un]) rfl (qs_tidyC (is := []) (js := [4, 5]) (qs_set (qc_lenD (qs := s3) (e := eD) rfl (qs_let (v := (s3.length : Int)) (fun k5 => [.dat ((eL eI) mixed0), .dat ((e4 eI eI eI eI) rect0), .od (.dt (eQ eD s3)), .dat (eI a2), .dat (eI a4), .dat (eI k5)]) fun k5 => (qs_last (qs_dputT (qc_op (qc_tup (qc_cons (qc_var rfl (qc_cons (qc_op (qc_pur (qc_call (qc_cons (qc_var rfl (qc_nil (qt_par (t := strG k5) eS (fun _ h => str_ok h) fun s6 => (qt_par (t := catSG ((Str.ofString "t")) s6) eS (fun _ h => catS_ok h) fun s7 => (qc_cons (qc_pur (qc_cons (qc_tup (qc_cons (qc_pur (qc_cons (qc_var rfl (qc_cons (qc_pur (qc_cons (qc_pur (qc_nil ⟨(Nat.le_of_ble_eq_true rfl), (qc_cons (qc_un (qc_var rfl (qt_tot (eI ((-k5))) rfl (qc_cons (qc_pur (qc_nil ⟨(Nat.le_of_ble_eq_true rfl), (qc_op (qc_call (qc_cons (qc_op (qc_var rfl (qc_op (qc_call (qc_cons (qc_var rfl (qc_nil (qt_tot (eI k5) rfl (qc_pur (qt_tot (eI ((k5 % (63 : Int)))) rfl (qt_par (t := atI mixed0 ((k5 % (63 : Int)))) eI (fun _ h => ixL_ok (e := eI) (xs := mixed0) h) fun it8 => (qc_nil (qt_tot (eI it8) rfl (qc_pur (qt_tot (eI ((it8 % (6 : Int)))) rfl (qt_par (t := atI ([(eI (((k5, s7, (), ((0 : Int), k5, (0 : Int), (255 : Int)), (-k5), true)).1)), (eS (((k5, s7, (), ((0 : Int), k5, (0 : Int), (255 : Int)), (-k5), true)).2.1)), (eN (((k5, s7, (), ((0 : Int), k5, (0 : Int), (255 : Int)), (-k5), true)).2.2.1)), ((e4 eI eI eI eI) (((k5, s7, (), ((0 : Int), k5, (0 : Int), (255 : Int)), (-k5), true)).2.2.2.1)), (eI (((k5, s7, (), ((0 : Int), k5, (0 : Int), (255 : Int)), (-k5), true)).2.2.2.2.1)), (eB (((k5, s7, (), ((0 : Int), k5, (0 : Int), (255 : Int)), (-k5), true)).2.2.2.2.2))]) ((it8 % (6 : Int)))) eD (fun _ h => ixT_ok (e := eD) (xs := [(eI (((k5, s7, (), ((0 : Int), k5, (0 : Int), (255 : Int)), (-k5), true)).1)), (eS (((k5, s7, (), ((0 : Int), k5, (0 : Int), (255 : Int)), (-k5), true)).2.1)), (eN (((k5, s7, (), ((0 : Int), k5, (0 : Int), (255 : Int)), (-k5), true)).2.2.1)), ((e4 eI eI eI eI) (((k5, s7, (), ((0 : Int), k5, (0 : Int), (255 : Int)), (-k5), true)).2.2.2.1)), (eI (((k5, s7, (), ((0 : Int), k5, (0 : Int), (255 : Int)), (-k5), true)).2.2.2.2.1)), (eB (((k5, s7, (), ((0 : Int), k5, (0 : Int), (255 : Int)), (-k5), true)).2.2.2.2.2))]) h) fun it9 => ⟨⟨_, rfl⟩, (qc_cons (qc_var rfl (qc_cons (qc_var rfl (qc_nil ⟨_, _, _, s3, eD, it9, _, rfl, rfl, rfl, rfl, fun things10 => qs_fr (ε' := [.dat ((eL eI) mixed0), .dat ((e4 eI eI eI eI) rect0), .od (.dt (eQ eD things10)), .dat (eI a2), .dat (eI a4), .dat (eI k5)]) rfl (qs_nil (fin ⟨_, .inl rfl, rfl⟩))⟩)))))⟩)))))))))))))))))))⟩)))))))⟩))))))))))))))))))))))))))))))))⟩), fun s3 => (qs_nil (fin ⟨_, .inl rfl, rfl⟩))⟩)))))))))))))))))⟩), fun s1 => (qs_pre1 (qs_fr (ε' := [.dat ((eL eI) mixed0), .dat ((e4 eI eI eI eI) rect0), .dat ((eDt eD) s1), .un, .un, .un]) rfl (qs_ret (qc_var rfl (fin ⟨_, rfl⟩)))))⟩)))))))))))))))))
theorem tt_law_things {mixed0 : (List Int)} {rect0 : (Int × Int × Int × Int)} {r : (List ((Int × Int) × D))} (h : t_law_things mixed0 rect0 = some r) : m_law_things [(eL eI) mixed0, (e4 eI eI eI eI) rect0] = some (.ret ((eDt eD) r)) := run_P (ε := [.dat ((eL eI) mixed0), .dat ((e4 eI eI eI eI) rect0), .un, .un, .un, .un]) rfl (tq_law_things mixed0 rect0) h
def bd_law_block_1 : Mo D := (mDGetT 0 (mCons (mVar 4) (mCons (mVar 3) (pur []))))
def bd_law_block_2 : Mo (List D) := (mLc [4] (bnd (mCons (mOp gIx (mVar 1) (pur (.int 0))) (mCons (mOp gIx (mVar 1) (pur (.int 2))) (pur []))) fun ds => lft (rngFar ds)) (gdName 4) (pur true) bd_law_block_1)
def bd_law_block_3 : MoS := (mPost [] [3] (mApp 2 (mCall (gOne gTuple) (mCons (mFz bd_law_block_2) (pur [])))))
def g_law_block : MoS := (mSeq (mSetO 2 (mLstO (pur [])))
  (mSeq (mFor (bnd (mCons (mOp gIx (mVar 1) (pur (.int 1))) (mCons (mOp gIx (mVar 1) (pur (.int 3))) (pur []))) fun ds => lft (rngFar ds)) (gdName 3) bd_law_block_3)
  (mPre [2] (mRet (mCall (gOne gTuple) (mCons (mVar 2) (pur [])))))))
def m_law_block : List D → Option Ans := runP 5 g_law_block
theorem ok_law_block (T : Txt P w K mg) : FnOk P w K mg base (CXX P w) 1 T.f_law_block T.d_law_block ["things", "rect"] (SpP K 2 m_law_block) := by
  exact fn_P (g := g_law_block) T.F_law_block sc_law_block (fun cdv A outer s H E C hA hr tk => (ss_cons (st_setO (fun _ p => ps_set (i := 2) sc_law_block.nd rfl (by first | exact Or.inl rfl | exact Or.inr rfl) p) (eo_lst ea_nil))
      (ss_cons (st_for (ei_far (ea_cons (ev_item (fun _ _ => rfl) (ev_var 1 (pv 1)) ev_int) (ea_cons (ev_item (fun _ _ => rfl) (ev_var 1 (pv 1)) ev_int) ea_nil)) fun _ p => pi_far (by rfl) T.z_range p) (ss_post [] [3] (ss_one (st_app (i := 2) (fun _ p => ps_expr (pe_bm PySem.F.plainAttrs_list PySem.F.slot_list_append PySem.F.type_list_append mt_append (pv 2) (pa_cons p pa_nil))) (ev_cb vc_tuple (ea_cons (ev_lc (own := [("x", 4)]) rfl sc_law_block.nd (ei_far (ea_cons (ev_item (fun _ _ => rfl) (ev_var 1 (pv 1)) ev_int) (ea_cons (ev_item (fun _ _ => rfl) (ev_var 1 (pv 1)) ev_int) ea_nil)) fun _ p => pi_far (by rfl) T.z_range p) (blkOk_by (own := [("x", 4)]) (N := N_law_block) (sc := defScope s_law_block) (by decide +kernel)) (fun _ _ _ _ _ => (pg_name (i := 4) sc_law_block.nd rfl (by first | exact Or.inl rfl | exact Or.inr rfl))) (sg_name (i := 4)) (fun _ _ _ _ _ => pt_nilD) (fun _ _ _ _ _ => (ev_dgetT (i := 0) (ea_cons (ev_var 4 (pv 4)) (ea_cons (ev_var 3 (pv 3)) ea_nil)) fun _ p => pe_dget (hu_of hr) (pv 0) (pe_tup p) (fun _ _ => rfl))) (by decide) (by decide)).frz ea_nil) fun _ p => pe_callTy call_tuple_of (by rfl) T.z_tuple (by decide +kernel) p)))) (sg_name (i := 3)) fun _ _ p q => ps_for (passes_of rfl) rfl p (pg_name (i := 3) sc_law_block.nd rfl (by first | exact Or.inl rfl | exact Or.inr rfl)) q)
      (ss_one (st_pre [2] (st_ret (ev_cb vc_tuple (ea_cons (ev_var 2 (pv 2)) ea_nil) fun _ p => pe_callTy call_tuple_of (by rfl) T.z_tuple (by decide +kernel) p))))))) (fun _ _ _ h => h)
@[irreducible] noncomputable def u_law_block_1 (things0 : (List ((Int × Int) × D))) (a2 : Int) : Int → Option D := fun (a4 : Int) =>
(lookG things0 (a4, a2)).bind fun v5 =>
some v5
@[irreducible] noncomputable def u_law_block_2 (rect0 : (Int × Int × Int × Int)) (things0 : (List ((Int × Int) × D))) : Int → ((List (List D))) → Option ((List (List D))) := fun (a2 : Int) (s1 : ((List (List D)))) =>
(capG ((rngI rect0.1 (rect0.2.2.1 - rect0.1).toNat)).length).bind fun _ => (mapO (u_law_block_1 things0 a2) ((rngI rect0.1 (rect0.2.2.1 - rect0.1).toNat))).bind fun cs6 =>
(appG s1 cs6).bind fun rows3 =>
some rows3
@[irreducible] noncomputable def t_law_block (things0 : (List ((Int × Int) × D))) (rect0 : (Int × Int × Int × Int)) : Option (List (List D)) :=
(foldO (u_law_block_2 rect0 things0) ((rngI rect0.2.1 (rect0.2.2.2 - rect0.2.1).toNat)) ([])).bind fun s1 =>
some s1
theorem tq_law_block (things0 : (List ((Int × Int) × D))) (rect0 : (Int × Int × Int × Int)) : QS (RP (eT (eT eD))) g_law_block [.dat ((eDt eD) things0), .dat ((e4 eI eI eI eI) rect0), .un, .un, .un] (t_law_block things0 rect0) := by unfold t_law_block; exact (qs_setO (qc_lstO (qc_nil ⟨(Nat.le_of_ble_eq_true rfl), (qs_fr (ε' := [.dat ((eDt eD) things0), .dat ((e4 eI eI eI eI) rect0), .own (List.map (eT eD) ([])), .un, .un]) rfl (qs_for (qc_bnd (qc_cons (qc_op (qc_var rfl (qc_pur (qt_tot (eI rect0.2.1) rfl (qc_cons (qc_op (qc_var rfl (qc_pur (qt_tot (eI rect0.2.2.2) rfl (qc_nil (qc_lft (qt_tot _ (rngFar_eq rect0.2.1 rect0.2.2.2) ⟨_, _, (rngI rect0.2.1 (rect0.2.2.2 - rect0.2.1).toNat), eI, [], (fun s1 : ((List (List D))) => [.dat ((eDt eD) things0), .dat ((e4 eI eI eI eI) rect0), .own (List.map (eT eD) s1), .un, .un]), (u_law_block_2 rect0 things0), _, rfl, rfl, rfl, (fun a2 s1 => ⟨_, rfl, by unfold u_law_block_2; exact qs_fr (ε' := [.dat ((eDt eD) things0), .dat ((e4 eI eI eI eI) rect0), .own (List.map (eT eD) s1), .dat (eI a2), .un]) rfl (qs_tidyC (is := []) (js := [3]) (qs_last (qs_app ob_own (e := (eT eD)) rfl (qc_call (qc_cons (qc_fz (qc_lcA (qc_bnd (qc_cons (qc_op (qc_var rfl (qc_pur (qt_tot (eI rect0.1) rfl (qc_cons (qc_op (qc_var rfl (qc_pur (qt_tot (eI rect0.2.2.1) rfl (qc_nil (qc_lft (qt_tot _ (rngFar_eq rect0.1 rect0.2.2.1) ⟨_, _, (rngI rect0.1 (rect0.2.2.1 - rect0.1).toNat), eI, (u_law_block_1 things0 a2), eD, _, rfl, rfl, rfl, rfl, (fun a4 => ⟨_, rfl, rfl, by unfold u_law_block_1; exact (qc_dgetT (dtAt_frz _) (qc_cons (qc_var rfl (qc_cons (qc_var rfl (qc_nil ⟨_, _, _, things0, eD, rfl, (dtAt_frz _), qt_par (t := lookG things0 (a4, a2)) eD (fun _ h => congrArg (Option.map _) h) fun v5 => ⟨_, rfl, rfl, rfl⟩⟩))))))⟩), fun cs6 => (qc_nil (qt_tot ((eT eD) cs6) rfl ⟨_, _, _, rfl, rfl, rfl, fun rows3 => qs_fr (ε' := [.dat ((eDt eD) things0), .dat ((e4 eI eI eI eI) rect0), .own (List.map (eT eD) rows3), .dat (eI a2), .un]) rfl (qs_nil (fin ⟨_, .inl rfl, rfl⟩))⟩))⟩)))))))))))))))))))))⟩), fun s1 => (qs_pre1 (qs_fr (ε' := [.dat ((eDt eD) things0), .dat ((e4 eI eI eI eI) rect0), .dat ((eL (eT eD)) s1), .un, .un]) rfl (qs_ret (qc_call (qc_cons (qc_var rfl (qc_nil (qt_tot ((eT (eT eD)) s1) rfl (fin ⟨_, rfl⟩)))))))))⟩))))))))))))))))⟩)))
theorem tt_law_block {things0 : (List ((Int × Int) × D))} {rect0 : (Int × Int × Int × Int)} {r : (List (List D))} (h : t_law_block things0 rect0 = some r) : m_law_block [(eDt eD) things0, (e4 eI eI eI eI) rect0] = some (.ret ((eT (eT eD)) r)) := run_P (ε := [.dat ((eDt eD) things0), .dat ((e4 eI eI eI eI) rect0), .un, .un, .un]) rfl (tq_law_block things0 rect0) h
def g_law_part : MoS := (mSeq (mSet 2 (mOp gAdd (mOp gIx (mVar 0) (pur (.int 0))) (mOp gMod (mCall (gOne gInt) (mCons (mOp gIx (mVar 1) (pur (.int 0))) (pur []))) (mOp DL.gSub (mOp gIx (mVar 0) (pur (.int 2))) (mOp gIx (mVar 0) (pur (.int 0)))))))
  (mSeq (mSet 3 (mOp gAdd (mOp gIx (mVar 0) (pur (.int 1))) (mOp gMod (mCall (gOne gInt) (mCons (mOp gIx (mVar 1) (pur (.int 1))) (pur []))) (mOp DL.gSub (mOp gIx (mVar 0) (pur (.int 3))) (mOp gIx (mVar 0) (pur (.int 1)))))))
  (mRet (mTup (mCons (mVar 2) (mCons (mVar 3) (mCons (mOp gAdd (mOp gAdd (mVar 2) (pur (.int 1))) (mOp gMod (mCall (gOne gInt) (mCons (mOp gIx (mVar 1) (pur (.int 2))) (pur []))) (mOp DL.gSub (mOp gIx (mVar 0) (pur (.int 2))) (mVar 2)))) (mCons (mOp gAdd (mOp gAdd (mVar 3) (pur (.int 1))) (mOp gMod (mCall (gOne gInt) (mCons (mOp gIx (mVar 1) (pur (.int 3))) (pur []))) (mOp DL.gSub (mOp gIx (mVar 0) (pur (.int 3))) (mVar 3)))) (pur [])))))))))
def m_law_part : List D → Option Ans := runP 4 g_law_part
theorem ok_law_part (T : Txt P w K mg) : FnOk P w K mg base (CXX P w) 1 T.f_law_part T.d_law_part ["rect", "numbers"] (SpP K 2 m_law_part) := by
  exact fn_P (g := g_law_part) T.F_law_part sc_law_part (fun cdv A outer s H E C hA hr tk => (ss_cons (st_set (fun _ p => ps_set (i := 2) sc_law_part.nd rfl (by first | exact Or.inl rfl | exact Or.inr rfl) p) (ev_add (ev_item (fun _ _ => rfl) (ev_var 0 (pv 0)) ev_int) (ev_mod (ev_cb vc_int (ea_cons (ev_item (fun _ _ => rfl) (ev_var 1 (pv 1)) ev_int) ea_nil) fun _ p => pe_callTy call_int1 (by rfl) T.z_int (by decide +kernel) p) (ev_sub (ev_item (fun _ _ => rfl) (ev_var 0 (pv 0)) ev_int) (ev_item (fun _ _ => rfl) (ev_var 0 (pv 0)) ev_int)))))
      (ss_cons (st_set (fun _ p => ps_set (i := 3) sc_law_part.nd rfl (by first | exact Or.inl rfl | exact Or.inr rfl) p) (ev_add (ev_item (fun _ _ => rfl) (ev_var 0 (pv 0)) ev_int) (ev_mod (ev_cb vc_int (ea_cons (ev_item (fun _ _ => rfl) (ev_var 1 (pv 1)) ev_int) ea_nil) fun _ p => pe_callTy call_int1 (by rfl) T.z_int (by decide +kernel) p) (ev_sub (ev_item (fun _ _ => rfl) (ev_var 0 (pv 0)) ev_int) (ev_item (fun _ _ => rfl) (ev_var 0 (pv 0)) ev_int)))))
      (ss_one (st_ret (ev_tup (ea_cons (ev_var 2 (pv 2)) (ea_cons (ev_var 3 (pv 3)) (ea_cons (ev_add (ev_add (ev_var 2 (pv 2)) ev_int) (ev_mod (ev_cb vc_int (ea_cons (ev_item (fun _ _ => rfl) (ev_var 1 (pv 1)) ev_int) ea_nil) fun _ p => pe_callTy call_int1 (by rfl) T.z_int (by decide +kernel) p) (ev_sub (ev_item (fun _ _ => rfl) (ev_var 0 (pv 0)) ev_int) (ev_var 2 (pv 2))))) (ea_cons (ev_add (ev_add (ev_var 3 (pv 3)) ev_int) (ev_mod (ev_cb vc_int (ea_cons (ev_item (fun _ _ => rfl) (ev_var 1 (pv 1)) ev_int) ea_nil) fun _ p => pe_callTy call_int1 (by rfl) T.z_int (by decide +kernel) p) (ev_sub (ev_item (fun _ _ => rfl) (ev_var 0 (pv 0)) ev_int) (ev_var 3 (pv 3))))) ea_nil)))))))))) (fun _ _ _ h => h)
@[irreducible] noncomputable def t_law_part (rect0 : (Int × Int × Int × Int)) (numbers0 : (List Int)) : Option (Int × Int × Int × Int) :=
(atI numbers0 ((0 : Int))).bind fun it1 =>
(modG it1 ((rect0.2.2.1 - rect0.1))).bind fun r2 =>
letO ((rect0.1 + r2) : Int) fun x3 =>
(atI numbers0 ((1 : Int))).bind fun it4 =>
(modG it4 ((rect0.2.2.2 - rect0.2.1))).bind fun r5 =>
letO ((rect0.2.1 + r5) : Int) fun y6 =>
(atI numbers0 ((2 : Int))).bind fun it7 =>
(modG it7 ((rect0.2.2.1 - x3))).bind fun r8 =>
(atI numbers0 ((3 : Int))).bind fun it9 =>
(modG it9 ((rect0.2.2.2 - y6))).bind fun r10 =>
some ((x3, y6, ((x3 + (1 : Int)) + r8), ((y6 + (1 : Int)) + r10)))
theorem tq_law_part (rect0 : (Int × Int × Int × Int)) (numbers0 : (List Int)) : QS (RP (e4 eI eI eI eI)) g_law_part [.dat ((e4 eI eI eI eI) rect0), .dat ((eL eI) numbers0), .un, .un] (t_law_part rect0 numbers0) := by unfold t_law_part; exact (qs_set (qc_op (qc_op (qc_var rfl (qc_pur (qt_tot (eI rect0.1) rfl (qc_op (qc_call (qc_cons (qc_op (qc_var rfl (qc_pur (qt_par (t := atI numbers0 ((0 : Int))) eI (fun _ h => ixL_ok (e := eI) (xs := numbers0) h) fun it1 => (qc_nil (qt_tot (eI it1) rfl (qc_op (qc_op (qc_var rfl (qc_pur (qt_tot (eI rect0.2.2.1) rfl (qc_op (qc_var rfl (qc_pur (qt_tot (eI rect0.1) rfl (qt_tot (eI ((rect0.2.2.1 - rect0.1))) rfl (qt_par (t := modG it1 ((rect0.2.2.1 - rect0.1))) eI (fun _ h => mod_ok h) fun r2 => (qt_tot (eI ((rect0.1 + r2))) rfl (qs_let (v := (rect0.1 + r2)) (fun x3 => [.dat ((e4 eI eI eI eI) rect0), .dat ((eL eI) numbers0), .dat (eI x3), .un]) fun x3 => (qs_set (qc_op (qc_op (qc_var rfl (qc_pur (qt_tot (eI rect0.2.1) rfl (qc_op (qc_call (qc_cons (qc_op (qc_var rfl (qc_pur (qt_par (t := atI numbers0 ((1 : Int))) eI (fun _ h => ixL_ok (e := eI) (xs := numbers0) h) fun it4 => (qc_nil (qt_tot (eI it4) rfl (qc_op (qc_op (qc_var rfl (qc_pur (qt_tot (eI rect0.2.2.2) rfl (qc_op (qc_var rfl (qc_pur (qt_tot (eI rect0.2.1) rfl (qt_tot (eI ((rect0.2.2.2 - rect0.2.1))) rfl (qt_par (t := modG it4 ((rect0.2.2.2 - rect0.2.1))) eI (fun _ h => mod_ok h) fun r5 => (qt_tot (eI ((rect0.2.1 + r5))) rfl (qs_let (v := (rect0.2.1 + r5)) (fun y6 => [.dat ((e4 eI eI eI eI) rect0), .dat ((eL eI) numbers0), .dat (eI x3), .dat (eI y6)]) fun y6 => (qs_ret (qc_tup (qc_cons (qc_var rfl (qc_cons (qc_var rfl (qc_cons (qc_op (qc_op (qc_var rfl (qc_pur (qt_tot (eI ((x3 + (1 : Int)))) rfl (qc_op (qc_call (qc_cons (qc_op (qc_var rfl (qc_pur (qt_par (t := atI numbers0 ((2 : Int))) eI (fun _ h => ixL_ok (e := eI) (xs := numbers0) h) fun it7 => (qc_nil (qt_tot (eI it7) rfl (qc_op (qc_op (qc_var rfl (qc_pur (qt_tot (eI rect0.2.2.1) rfl (qc_var rfl (qt_tot (eI ((rect0.2.2.1 - x3))) rfl (qt_par (t := modG it7 ((rect0.2.2.1 - x3))) eI (fun _ h => mod_ok h) fun r8 => (qt_tot (eI (((x3 + (1 : Int)) + r8))) rfl (qc_cons (qc_op (qc_op (qc_var rfl (qc_pur (qt_tot (eI ((y6 + (1 : Int)))) rfl (qc_op (qc_call (qc_cons (qc_op (qc_var rfl (qc_pur (qt_par (t := atI numbers0 ((3 : Int))) eI (fun _ h => ixL_ok (e := eI) (xs := numbers0) h) fun it9 => (qc_nil (qt_tot (eI it9) rfl (qc_op (qc_op (qc_var rfl (qc_pur (qt_tot (eI rect0.2.2.2) rfl (qc_var rfl (qt_tot (eI ((rect0.2.2.2 - y6))) rfl (qt_par (t := modG it9 ((rect0.2.2.2 - y6))) eI (fun _ h => mod_ok h) fun r10 => (qt_tot (eI (((y6 + (1 : Int)) + r10))) rfl (qc_nil ⟨(Nat.le_of_ble_eq_true rfl), (fin ⟨_, rfl⟩)⟩)))))))))))))))))))))))))))))))))))))))))))))))))))))))))))))))))))))))))))))))))))))))))))))))))))))))))))))))
theorem tt_law_part {rect0 : (Int × Int × Int × Int)} {numbers0 : (List Int)} {r : (Int × Int × Int × Int)} (h : t_law_part rect0 numbers0 = some r) : m_law_part [(e4 eI eI eI eI) rect0, (eL eI) numbers0] = some (.ret ((e4 eI eI eI eI) r)) := run_P (ε := [.dat ((e4 eI eI eI eI) rect0), .dat ((eL eI) numbers0), .un, .un]) rfl (tq_law_part rect0 numbers0) h
def bd_law_numbers_1 : MoS := (mPost [] [7, 8] (mSeq (mSet 8 (mOp DL.gSub (mOp gMod (mCall (gOne gInt) (mCons (mOp gIx (mVar 5) (mVar 7)) (pur []))) (pur (.int 16))) (pur (.int 6))))
  (mSeq (mPost [] [] (mIfS (mB (mOp gLt (mOp gAdd (mVar 1) (mVar 7)) (mLenN 0))) (mSet 8 (mCall (gOne gInt) (mCons (mOp gIx (mVar 0) (mOp gAdd (mVar 1) (mVar 7))) (pur [])))) mNil))
  (mSeq (mPost [] [] (mIfS (mB (mVar 4)) (mSet 8 (mOp DL.gSub (mOp gMod (mCall (gOne gInt) (mCons (mVar 8) (pur []))) (pur (.int 16))) (pur (.int 6)))) mNil))
  (mApp 6 (mVar 8))))))
def g_law_numbers : MoS := (mSeq (mSet 5 (mFn 3 m_law_draws (mCons (mVar 0) (mCons (mVar 3) (mCons (mVar 2) (pur []))))))
  (mSeq (mSetO 6 (mLstO (pur [])))
  (mSeq (mFor (bnd (mCons (mVar 2) (pur [])) fun ds => lft (rng1 ds)) (gdName 7) bd_law_numbers_1)
  (mPre [6] (mRet (mVar 6))))))
def m_law_numbers : List D → Option Ans := runP 9 g_law_numbers
theorem ok_law_numbers (T : Txt P w K mg) : FnOk P w K mg base (CXX P w) 2 T.f_law_numbers T.d_law_numbers ["script", "at", "many", "seed", "small"] (SpP K 5 m_law_numbers) := by
  exact fn_P (g := g_law_numbers) T.F_law_numbers sc_law_numbers (fun cdv A outer s H E C hA hr tk => (ss_cons (st_set (fun _ p => ps_set (i := 5) sc_law_numbers.nd rfl (by first | exact Or.inl rfl | exact Or.inr rfl) p) (cl_fn (ok_law_draws T) tk hr (by rfl) T.m_law_draws T.F_law_draws.kp T.b_law_draws (ea_cons (ev_var 0 (pv 0)) (ea_cons (ev_var 3 (pv 3)) (ea_cons (ev_var 2 (pv 2)) ea_nil)))))
      (ss_cons (st_setO (fun _ p => ps_set (i := 6) sc_law_numbers.nd rfl (by first | exact Or.inl rfl | exact Or.inr rfl) p) (eo_lst ea_nil))
      (ss_cons (st_for (ei_range1 (ea_cons (ev_var 2 (pv 2)) ea_nil) fun _ p => pi_range1 (by rfl) T.z_range p) (ss_post [] [7, 8] (ss_cons (st_set (fun _ p => ps_set (i := 8) sc_law_numbers.nd rfl (by first | exact Or.inl rfl | exact Or.inr rfl) p) (ev_sub (ev_mod (ev_cb vc_int (ea_cons (ev_item (fun _ _ => rfl) (ev_var 5 (pv 5)) (ev_var 7 (pv 7))) ea_nil) fun _ p => pe_callTy call_int1 (by rfl) T.z_int (by decide +kernel) p) ev_int) ev_int))
      (ss_cons (st_post [] [] (st_if (te_cmp op_lt (nomark _) (vop_I0 fun _ _ _ => .bl _) (ev_add (ev_var 1 (pv 1)) (ev_var 7 (pv 7))) (ev_lenN (i := 0) (pe_callB call_len (by rfl) T.z_len PySem.boot_len (pa_cons (pv 0) pa_nil)))) (ss_one (st_set (fun _ p => ps_set (i := 8) sc_law_numbers.nd rfl (by first | exact Or.inl rfl | exact Or.inr rfl) p) (ev_cb vc_int (ea_cons (ev_item (fun _ _ => rfl) (ev_var 0 (pv 0)) (ev_add (ev_var 1 (pv 1)) (ev_var 7 (pv 7)))) ea_nil) fun _ p => pe_callTy call_int1 (by rfl) T.z_int (by decide +kernel) p))) ss_nil))
      (ss_cons (st_post [] [] (st_if (te_val (ev_var 4 (pv 4))) (ss_one (st_set (fun _ p => ps_set (i := 8) sc_law_numbers.nd rfl (by first | exact Or.inl rfl | exact Or.inr rfl) p) (ev_sub (ev_mod (ev_cb vc_int (ea_cons (ev_var 8 (pv 8)) ea_nil) fun _ p => pe_callTy call_int1 (by rfl) T.z_int (by decide +kernel) p) ev_int) ev_int))) ss_nil))
      (ss_one (st_app (i := 6) (fun _ p => ps_expr (pe_bm PySem.F.plainAttrs_list PySem.F.slot_list_append PySem.F.type_list_append mt_append (pv 6) (pa_cons p pa_nil))) (ev_var 8 (pv 8)))))))) (sg_name (i := 7)) fun _ _ p q => ps_for (passes_of rfl) rfl p (pg_name (i := 7) sc_law_numbers.nd rfl (by first | exact Or.inl rfl | exact Or.inr rfl)) q)
      (ss_one (st_pre [6] (st_ret (ev_var 6 (pv 6))))))))) (fun _ _ _ h => h)
@[irreducible] noncomputable def u_law_numbers_1 (r1 : (List Int)) (at0 : Int) (script0 : (List Int)) (small0 : Bool) : Int → ((List Int)) → Option ((List Int)) := fun (a4 : Int) (s3 : ((List Int))) =>
(atI r1 a4).bind fun it5 =>
letO (((it5 % (16 : Int)) - (6 : Int)) : Int) fun number6 =>
(if (decide ((at0 + a4) < (script0.length : Int))) = true then
(atI script0 ((at0 + a4))).bind fun it8 =>
some it8
else
some number6).bind fun s7 =>
(if small0 = true then
letO (((s7 % (16 : Int)) - (6 : Int)) : Int) fun number10 =>
some number10
else
some s7).bind fun s9 =>
(appG s3 s9).bind fun rows11 =>
some rows11
@[irreducible] noncomputable def t_law_numbers (script0 : (List Int)) (at0 : Int) (many0 : Int) (seed0 : Int) (small0 : Bool) : Option (List Int) :=
(t_law_draws script0 seed0 many0).bind fun r1 =>
(rng1G many0).bind fun rg2 =>
(foldO (u_law_numbers_1 r1 at0 script0 small0) rg2 ([])).bind fun s3 =>
some s3
theorem tq_law_numbers (script0 : (List Int)) (at0 : Int) (many0 : Int) (seed0 : Int) (small0 : Bool) : QS (RP (eL eI)) g_law_numbers [.dat ((eR eI) script0), .dat (eI at0), .dat (eI many0), .dat (eI seed0), .dat (eB small0), .un, .un, .un, .un] (t_law_numbers script0 at0 many0 seed0 small0) := by unfold t_law_numbers; exact (qs_set (qc_fn (qc_cons (qc_var rfl (qc_cons (qc_var rfl (qc_cons (qc_var rfl (qc_nil ⟨rfl, qt_par (t := t_law_draws script0 seed0 many0) (fun r => Ans.ret ((eL eI) r)) (fun _ h => tt_law_draws h) fun r1 => ⟨_, rfl, (qs_fr (ε' := [.dat ((eR eI) script0), .dat (eI at0), .dat (eI many0), .dat (eI seed0), .dat (eB small0), .dat ((eL eI) r1), .un, .un, .un]) rfl (qs_setO (qc_lstO (qc_nil ⟨(Nat.le_of_ble_eq_true rfl), (qs_fr (ε' := [.dat ((eR eI) script0), .dat (eI at0), .dat (eI many0), .dat (eI seed0), .dat (eB small0), .dat ((eL eI) r1), .own (List.map eI ([])), .un, .un]) rfl (qs_for (qc_bnd (qc_cons (qc_var rfl (qc_nil (qc_lft (qt_par (t := rng1G many0) (fun xs => xs.map eI) (fun _ h => rng1_ok h) fun rg2 => ⟨_, _, rg2, eI, [], (fun s3 : ((List Int)) => [.dat ((eR eI) script0), .dat (eI at0), .dat (eI many0), .dat (eI seed0), .dat (eB small0), .dat ((eL eI) r1), .own (List.map eI s3), .un, .un]), (u_law_numbers_1 r1 at0 script0 small0), _, rfl, rfl, rfl, (fun a4 s3 => ⟨_, rfl, by unfold u_law_numbers_1; exact qs_fr (ε' := [.dat ((eR eI) script0), .dat (eI at0), .dat (eI many0), .dat (eI seed0), .dat (eB small0), .dat ((eL eI) r1), .own (List.map eI s3), .dat (eI a4), .un]) rfl (qs_tidyC (is := []) (js := [7, 8]) (qs_set (qc_op (qc_op (qc_call (qc_cons (qc_op (qc_var rfl (qc_var rfl (qt_par (t := atI r1 a4) eI (fun _ h => ixL_ok (e := eI) (xs := r1) h) fun it5 => (qc_nil (qt_tot (eI it5) rfl (qc_pur (qt_tot (eI ((it5 % (16 : Int)))) rfl (qc_pur (qt_tot (eI (((it5 % (16 : Int)) - (6 : Int)))) rfl (qs_let (v := ((it5 % (16 : Int)) - (6 : Int))) (fun number6 => [.dat ((eR eI) script0), .dat (eI at0), .dat (eI many0), .dat (eI seed0), .dat (eB small0), .dat ((eL eI) r1), .own (List.map eI s3), .dat (eI a4), .dat (eI number6)]) fun number6 => (qs_post (is := []) (js := []) (fun s7 => [.dat ((eR eI) script0), .dat (eI at0), .dat (eI many0), .dat (eI seed0), .dat (eB small0), .dat ((eL eI) r1), .own (List.map eI s3), .dat (eI a4), .dat (eI s7)]) (qs_last (qs_if (qc_B (qc_op (qc_op (qc_var rfl (qc_var rfl (qt_tot (eI ((at0 + a4))) rfl (qc_lenN_datM rfl rfl (qt_tot (eB ((decide ((at0 + a4) < (script0.length : Int))))) rfl ⟨_, rfl, ⟨_, _, rfl, qs_unlast (qs_last (qs_set (qc_call (qc_cons (qc_op (qc_var rfl (qc_op (qc_var rfl (qc_var rfl (qt_tot (eI ((at0 + a4))) rfl (qt_par (t := atI script0 ((at0 + a4))) eI (fun _ h => ixR_ok (e := eI) (xs := script0) h) fun it8 => (qc_nil (qt_tot (eI it8) rfl (qs_fr (ε' := [.dat ((eR eI) script0), .dat (eI at0), .dat (eI many0), .dat (eI seed0), .dat (eB small0), .dat ((eL eI) r1), .own (List.map eI s3), .dat (eI a4), .dat (eI it8)]) rfl (qs_nil (fin ⟨_, rfl, rfl⟩)))))))))))))))), qs_unlast (qs_nil (fin ⟨_, rfl, rfl⟩))⟩⟩)))))))))) fun s7 => (qs_post (is := []) (js := []) (fun s9 => [.dat ((eR eI) script0), .dat (eI at0), .dat (eI many0), .dat (eI seed0), .dat (eB small0), .dat ((eL eI) r1), .own (List.map eI s3), .dat (eI a4), .dat (eI s9)]) (qs_last (qs_if (qc_B (qc_var rfl ⟨_, rfl, ⟨_, _, rfl, qs_unlast (qs_last (qs_set (qc_op (qc_op (qc_call (qc_cons (qc_var rfl (qc_nil (qt_tot (eI s7) rfl (qc_pur (qt_tot (eI ((s7 % (16 : Int)))) rfl (qc_pur (qt_tot (eI (((s7 % (16 : Int)) - (6 : Int)))) rfl (qs_let (v := ((s7 % (16 : Int)) - (6 : Int))) (fun number10 => [.dat ((eR eI) script0), .dat (eI at0), .dat (eI many0), .dat (eI seed0), .dat (eB small0), .dat ((eL eI) r1), .own (List.map eI s3), .dat (eI a4), .dat (eI number10)]) fun number10 => (qs_nil (fin ⟨_, rfl, rfl⟩)))))))))))))))), qs_unlast (qs_nil (fin ⟨_, rfl, rfl⟩))⟩⟩)))) fun s9 => (qs_last (qs_app ob_own (e := eI) rfl (qc_var rfl ⟨_, _, _, rfl, rfl, rfl, fun rows11 => qs_fr (ε' := [.dat ((eR eI) script0), .dat (eI at0), .dat (eI many0), .dat (eI seed0), .dat (eB small0), .dat ((eL eI) r1), .own (List.map eI rows11), .dat (eI a4), .dat (eI s9)]) rfl (qs_nil (fin ⟨_, .inl rfl, rfl⟩))⟩))))))))))))))))))))))⟩), fun s3 => (qs_pre1 (qs_fr (ε' := [.dat ((eR eI) script0), .dat (eI at0), .dat (eI many0), .dat (eI seed0), .dat (eB small0), .dat ((eL eI) r1), .dat ((eL eI) s3), .un, .un]) rfl (qs_ret (qc_var rfl (fin ⟨_, rfl⟩)))))⟩))))))))⟩))))⟩⟩)))))))))
theorem tt_law_numbers {script0 : (List Int)} {at0 : Int} {many0 : Int} {seed0 : Int} {small0 : Bool} {r : (List Int)} (h : t_law_numbers script0 at0 many0 seed0 small0 = some r) : m_law_numbers [(eR eI) script0, eI at0, eI many0, eI seed0, eB small0] = some (.ret ((eL eI) r)) := run_P (ε := [.dat ((eR eI) script0), .dat (eI at0), .dat (eI many0), .dat (eI seed0), .dat (eB small0), .un, .un, .un, .un]) rfl (tq_law_numbers script0 at0 many0 seed0 small0) h
def bd_law_same_1 (REC : List D → Option Ans) : MoS := (mPost [] [2] (mIfS (mNot (mB (mFn 2 REC (mCons (mOp gIx (mVar 0) (mVar 2)) (mCons (mOp gIx (mVar 1) (mVar 2)) (pur [])))))) (mRet (pur (.bl false))) mNil))
def g_law_same (REC : List D → Option Ans) : MoS := (mSeq (mIfS (mOr (mB (mCall gIsi (mCons (mVar 1) (mCons (pur (.rf (.ty "tuple"))) (pur []))))) (mB (mCall gIsi (mCons (mVar 1) (mCons (pur (.rf (.ty "list"))) (pur [])))))) (mSeq (mIfS (mAnd (mB (mCall gIsi (mCons (mVar 1) (mCons (pur (.rf (.ty "tuple"))) (pur []))))) (mNot (mB (mCall gIsi (mCons (mVar 0) (mCons (pur (.rf (.ty "tuple"))) (pur []))))))) (mRet (pur (.bl false))) mNil)
  (mSeq (mIfS (mAnd (mB (mCall gIsi (mCons (mVar 1) (mCons (pur (.rf (.ty "list"))) (pur []))))) (mNot (mB (mCall gIsi (mCons (mVar 0) (mCons (pur (.rf (.ty "list"))) (pur []))))))) (mRet (pur (.bl false))) mNil)
  (mSeq (mIfS (mB (mOp gNeS (mLenN 0) (mLenN 1))) (mRet (pur (.bl false))) mNil)
  (mSeq (mFor (bnd (mCons (mLenN 1) (pur [])) fun ds => lft (rng1 ds)) (gdName 2) (bd_law_same_1 REC))
  (mRet (pur (.bl true))))))) mNil)
  (mSeq (mIfS (mB (mOp (gIsN false) (mVar 1) (pur .non))) (mRet (mOp (gIsN false) (mVar 0) (pur .non))) mNil)
  (mSeq (mIfS (mB (mCall gIsi (mCons (mVar 1) (mCons (pur (.rf (.ty "bool"))) (pur []))))) (mRet (mAndV (mCall gIsi (mCons (mVar 0) (mCons (pur (.rf (.ty "bool"))) (pur [])))) (mOp gEqS (mVar 0) (mVar 1)))) mNil)
  (mSeq (mIfS (mB (mCall gIsi (mCons (mVar 1) (mCons (pur (.rf (.ty "int"))) (pur []))))) (mRet (mAndV (mFn 1 m_law_whole (mCons (mVar 0) (pur []))) (mOp gEqS (mVar 0) (mVar 1)))) mNil)
  (mRet (mAndV (mCall gIsi (mCons (mVar 0) (mCons (pur (.rf (.ty "str"))) (pur [])))) (mOp gEqS (mVar 0) (mVar 1))))))))
def mN_law_same : Nat → List D → Option Ans
  | 0 => fun _ => none
  | n + 1 => runP 3 (g_law_same (mN_law_same n))
theorem okN_law_same (T : Txt P w K mg) : ∀ n : Nat, FnOk P w K mg base (CXX P w) (1 + n) T.f_law_same T.d_law_same ["got", "due"] (SpP K 2 (mN_law_same n))
  | 0 => ok_none rfl
  | n + 1 => have ih := okN_law_same T n
    fn_P (k := 1 + n) (g := g_law_same (mN_law_same n)) T.F_law_same sc_law_same (fun cdv A outer s H E C hA hr tk => (ss_cons (st_if (te_w (tw_or (te_val (ev_cb vc_isi (ea_cons (ev_var 1 (pv 1)) (ea_cons (ev_c (d := .rf (.ty "tuple")) (pe_bltn (v := .ty "tuple") (by rfl) T.z_tuple (by decide +kernel) rfl) (fun _ _ => .rf _)) ea_nil)) fun _ p => pe_callB call_isi (by rfl) T.z_isinstance (by decide +kernel) p)) (tw_or1 (te_val (ev_cb vc_isi (ea_cons (ev_var 1 (pv 1)) (ea_cons (ev_c (d := .rf (.ty "list")) (pe_bltn (v := .ty "list") (by rfl) T.z_list (by decide +kernel) rfl) (fun _ _ => .rf _)) ea_nil)) fun _ p => pe_callB call_isi (by rfl) T.z_isinstance (by decide +kernel) p))))) (ss_cons (st_if (te_w (tw_and (te_val (ev_cb vc_isi (ea_cons (ev_var 1 (pv 1)) (ea_cons (ev_c (d := .rf (.ty "tuple")) (pe_bltn (v := .ty "tuple") (by rfl) T.z_tuple (by decide +kernel) rfl) (fun _ _ => .rf _)) ea_nil)) fun _ p => pe_callB call_isi (by rfl) T.z_isinstance (by decide +kernel) p)) (tw_and1 (te_not (te_val (ev_cb vc_isi (ea_cons (ev_var 0 (pv 0)) (ea_cons (ev_c (d := .rf (.ty "tuple")) (pe_bltn (v := .ty "tuple") (by rfl) T.z_tuple (by decide +kernel) rfl) (fun _ _ => .rf _)) ea_nil)) fun _ p => pe_callB call_isi (by rfl) T.z_isinstance (by decide +kernel) p)))))) (ss_one (st_ret ev_bl)) ss_nil)
      (ss_cons (st_if (te_w (tw_and (te_val (ev_cb vc_isi (ea_cons (ev_var 1 (pv 1)) (ea_cons (ev_c (d := .rf (.ty "list")) (pe_bltn (v := .ty "list") (by rfl) T.z_list (by decide +kernel) rfl) (fun _ _ => .rf _)) ea_nil)) fun _ p => pe_callB call_isi (by rfl) T.z_isinstance (by decide +kernel) p)) (tw_and1 (te_not (te_val (ev_cb vc_isi (ea_cons (ev_var 0 (pv 0)) (ea_cons (ev_c (d := .rf (.ty "list")) (pe_bltn (v := .ty "list") (by rfl) T.z_list (by decide +kernel) rfl) (fun _ _ => .rf _)) ea_nil)) fun _ p => pe_callB call_isi (by rfl) T.z_isinstance (by decide +kernel) p)))))) (ss_one (st_ret ev_bl)) ss_nil)
      (ss_cons (st_if (te_cmp op_ne (nomark _) vop_neS (ev_lenN (i := 0) (pe_callB call_len (by rfl) T.z_len PySem.boot_len (pa_cons (pv 0) pa_nil))) (ev_lenN (i := 1) (pe_callB call_len (by rfl) T.z_len PySem.boot_len (pa_cons (pv 1) pa_nil)))) (ss_one (st_ret ev_bl)) ss_nil)
      (ss_cons (st_for (ei_range1 (ea_cons (ev_lenN (i := 1) (pe_callB call_len (by rfl) T.z_len PySem.boot_len (pa_cons (pv 1) pa_nil))) ea_nil) fun _ p => pi_range1 (by rfl) T.z_range p) (ss_post [] [2] (ss_one (st_if (te_not (te_val (cl_fn (ih) tk hr (by rfl) T.m_law_same T.F_law_same.kp T.b_law_same (ea_cons (ev_item (fun _ _ => rfl) (ev_var 0 (pv 0)) (ev_var 2 (pv 2))) (ea_cons (ev_item (fun _ _ => rfl) (ev_var 1 (pv 1)) (ev_var 2 (pv 2))) ea_nil))))) (ss_one (st_ret ev_bl)) ss_nil))) (sg_name (i := 2)) fun _ _ p q => ps_for (passes_of rfl) rfl p (pg_name (i := 2) sc_law_same.nd rfl (by first | exact Or.inl rfl | exact Or.inr rfl)) q)
      (ss_one (st_ret ev_bl)))))) ss_nil)
      (ss_cons (st_if (te_cmp op_isN (nomark _) vop_isN (ev_var 1 (pv 1)) ev_non) (ss_one (st_ret (ev_isN (ev_var 0 (pv 0)) ev_non))) ss_nil)
      (ss_cons (st_if (te_val (ev_cb vc_isi (ea_cons (ev_var 1 (pv 1)) (ea_cons (ev_c (d := .rf (.ty "bool")) (pe_bltn (v := .ty "bool") (by rfl) T.z_bool (by decide +kernel) rfl) (fun _ _ => .rf _)) ea_nil)) fun _ p => pe_callB call_isi (by rfl) T.z_isinstance (by decide +kernel) p)) (ss_one (st_ret (ev_and (ev_cb vc_isi (ea_cons (ev_var 0 (pv 0)) (ea_cons (ev_c (d := .rf (.ty "bool")) (pe_bltn (v := .ty "bool") (by rfl) T.z_bool (by decide +kernel) rfl) (fun _ _ => .rf _)) ea_nil)) fun _ p => pe_callB call_isi (by rfl) T.z_isinstance (by decide +kernel) p) (ev_one (ev_eqS (ev_var 0 (pv 0)) (ev_var 1 (pv 1))))))) ss_nil)
      (ss_cons (st_if (te_val (ev_cb vc_isi (ea_cons (ev_var 1 (pv 1)) (ea_cons (ev_c (d := .rf (.ty "int")) (pe_bltn (v := .ty "int") (by rfl) T.z_int (by decide +kernel) rfl) (fun _ _ => .rf _)) ea_nil)) fun _ p => pe_callB call_isi (by rfl) T.z_isinstance (by decide +kernel) p)) (ss_one (st_ret (ev_and (cl_fn (ok_law_whole T) tk (hr.mono (by omega)) (by rfl) T.m_law_whole T.F_law_whole.kp T.b_law_whole (ea_cons (ev_var 0 (pv 0)) ea_nil)) (ev_one (ev_eqS (ev_var 0 (pv 0)) (ev_var 1 (pv 1))))))) ss_nil)
      (ss_one (st_ret (ev_and (ev_cb vc_isi (ea_cons (ev_var 0 (pv 0)) (ea_cons (ev_c (d := .rf (.ty "str")) (pe_bltn (v := .ty "str") (by rfl) T.z_str (by decide +kernel) rfl) (fun _ _ => .rf _)) ea_nil)) fun _ p => pe_callB call_isi (by rfl) T.z_isinstance (by decide +kernel) p) (ev_one (ev_eqS (ev_var 0 (pv 0)) (ev_var 1 (pv 1)))))))))))) (fun _ _ _ h => h)
def m_law_same : List D → Option Ans := mN_law_same 4
theorem ok_law_same (T : Txt P w K mg) : FnOk P w K mg base (CXX P w) 5 T.f_law_same T.d_law_same ["got", "due"] (SpP K 2 m_law_same) := okN_law_same T 4
theorem kb1 : kitB "tuple" "tuple" = some true := by decide +kernel
theorem kb2 : kitB "list" "tuple" = some false := by decide +kernel
theorem kb3 : kitB "list" "list" = some true := by decide +kernel
theorem kb4 : kitB "int" "tuple" = some false := by decide +kernel
theorem kb5 : kitB "int" "list" = some false := by decide +kernel
theorem kb6 : kitB "bool" "tuple" = some false := by decide +kernel
theorem kb7 : kitB "bool" "list" = some false := by decide +kernel
theorem kb8 : kitB "str" "tuple" = some false := by decide +kernel
theorem kb9 : kitB "str" "list" = some false := by decide +kernel
theorem kb10 : kitB "bool" "bool" = some true := by decide +kernel
theorem kb11 : kitB "int" "bool" = some false := by decide +kernel
theorem kb12 : kitB "str" "bool" = some false := by decide +kernel
theorem kb13 : kitB "int" "int" = some true := by decide +kernel
theorem kb14 : kitB "str" "int" = some false := by decide +kernel
theorem kb15 : kitB "str" "str" = some true := by decide +kernel
theorem kb16 : kitB "tuple" "list" = some false := by decide +kernel
theorem whole_int (i : Int) : m_law_whole [.int i] = some (.ret (.bl true)) := by
  simp [m_law_whole, g_law_whole, gIsi, tyName, kb13, kb11, mPost, mPre, clrs, frzs, clr1, frz1, runP, runO, runQ, ansOf, outQ, env0, envQ, mSeq, mNil, mRet, mRetO, mRetOwn, mRetN, mSet, mSetO, mAsg, mIfS, mThen, mDrop, mApp, mPut, mFor, forGo, mAug, mFn, mFnO, mFnQ, bnd, pur, lft, mCons, mVar, mOp, mUn, mTup, mLst, mLstO, mB, asB, mNot, mAnd, mOr, mAndV, mOrV, mNotV, mIf, mChain, mCall, ansM, mPop, mLenN, mItemN, mSl, mSlO, mCatO, mListO, mListRev, mFz, mLc, lcGo, wipeE, backE, gdName, gdTup, setL, Ent.get, Ent.put, gLen, gOne, gTwo, gI, gAdd, DL.gSub, gMul, gDiv, gMod, gPow, gLt, gLe, gGt, gGe, gNeg, gEqS, gNeS, gIsN, gInt, gAbs, gMin2, gMax2, gStr, gTuple, gList, gIx, seqOf, lstOf, tupOf, asI, rng1, rng2, gSlL, gSlT, gCatS, gCatL, gCatT, tyName, mTruth, gTruth, mDct, intKeys, gKd, gUpper, gdLst, mNewB, mDGet, mDPut, dkAt, keyD, runB, envB, outB, mMake, mFld, mFldN, mFldPut, insAt, partsOf, putS, mMeth, mCallO, OB.frz, zipD, gdTwo, boolsOf, gAny, gAll, mExt, mKeys, keyAsD]
theorem kb17 : kitB "NoneType" "tuple" = some false := by decide +kernel
theorem kb18 : kitB "NoneType" "list" = some false := by decide +kernel
/-- data that is the same as itself, n deep -/
def okD : Nat → D → Prop
  | 0, _ => False
  | n + 1, d => match d with
    | .non => True
    | .bl _ => True
    | .int _ => True
    | .str _ => True
    | .tup ds => ds.length ≤ 1000000 ∧ ∀ e ∈ ds, okD n e
    | _ => False
theorem sm_unf (n : Nat) (ds : List D) : mN_law_same (n + 1) ds = ansOf (g_law_same (mN_law_same n) (env0 3 ds)) := rfl
theorem ix_tup {ds : List D} {i : Nat} (hi : i < ds.length) : gIx (.tup ds) (.int (i : Int)) = some ds[i] := atI_nat (xs := ds) (j := i) (List.getElem?_eq_getElem hi)
theorem sm_loop {n : Nat} {ds : List D} (h : ∀ d ∈ ds, mN_law_same n [d, d] = some (.ret (.bl true))) : ∀ (items : List Nat), (∀ i ∈ items, i < ds.length) →
    forGo (gdName 2) (bd_law_same_1 (mN_law_same n)) (items.map fun (i : Nat) => D.int (0 + (i : Int))) [.dat (.tup ds), .dat (.tup ds), .un] = some (.nx [.dat (.tup ds), .dat (.tup ds), .un])
  | [], _ => rfl
  | i :: r, hi => by
    have hy := sm_loop h r fun j hj => hi j (List.mem_cons_of_mem _ hj)
    have hl := hi i (List.mem_cons_self ..)
    have e1 := ix_tup hl
    have e2 := h ds[i] (List.getElem_mem hl)
    refine (for_step (i := 2) (ε' := [.dat (.tup ds), .dat (.tup ds), .un]) ?_).trans hy
    show bd_law_same_1 (mN_law_same n) [.dat (.tup ds), .dat (.tup ds), .dat (.int (0 + (i : Int)))] = some (.nx [.dat (.tup ds), .dat (.tup ds), .un])
    rw [Int.zero_add]
    simp [bd_law_same_1, e1, e2, mPost, mPre, clrs, frzs, clr1, frz1, runP, runO, runQ, ansOf, outQ, env0, envQ, mSeq, mNil, mRet, mRetO, mRetOwn, mRetN, mSet, mSetO, mAsg, mIfS, mThen, mDrop, mApp, mPut, mFor, forGo, mAug, mFn, mFnO, mFnQ, bnd, pur, lft, mCons, mVar, mOp, mUn, mTup, mLst, mLstO, mB, asB, mNot, mAnd, mOr, mAndV, mOrV, mNotV, mIf, mChain, mCall, ansM, mPop, mLenN, mItemN, mSl, mSlO, mCatO, mListO, mListRev, mFz, mLc, lcGo, wipeE, backE, gdName, gdTup, setL, Ent.get, Ent.put, gLen, gOne, gTwo, gI, gAdd, DL.gSub, gMul, gDiv, gMod, gPow, gLt, gLe, gGt, gGe, gNeg, gEqS, gNeS, gIsN, gInt, gAbs, gMin2, gMax2, gStr, gTuple, gList, seqOf, lstOf, asI, rng1, rng2, gSlL, gSlT, gCatS, gCatL, gCatT, tyName, mTruth, gTruth, mDct, intKeys, gKd, gUpper, gdLst, mNewB, mDGet, mDPut, dkAt, keyD, runB, envB, outB, mMake, mFld, mFldN, mFldPut, insAt, partsOf, putS, mMeth, mCallO, OB.frz, zipD, gdTwo, boolsOf, gAny, gAll, mExt, mKeys, keyAsD]
theorem same_seq {n : Nat} {ds : List D} (hl : ds.length ≤ 1000000) (h : ∀ d ∈ ds, mN_law_same n [d, d] = some (.ret (.bl true))) : mN_law_same (n + 1) [.tup ds, .tup ds] = some (.ret (.bl true)) := by
  have hy := sm_loop h (List.range ds.length) fun i hi => List.mem_range.mp hi
  have l2 : (mFor (bnd (mCons (mLenN 1) (pur [])) fun ds => lft (rng1 ds)) (gdName 2) (bd_law_same_1 (mN_law_same n))) [.dat (.tup ds), .dat (.tup ds), .un] = some (.nx [.dat (.tup ds), .dat (.tup ds), .un]) :=
    (for_run (rng1_run (ds := [.int ds.length]) (by simp [mCons, bnd, pur, mLenN]) (rng_nat _ hl))).trans hy
  have e : g_law_same (mN_law_same n) [.dat (.tup ds), .dat (.tup ds), .un] = some (.rt (.bl true) [.dat (.tup ds), .dat (.tup ds), .un]) := by
    unfold g_law_same
    refine seq_rt ?_
    have c1 : ∀ m : MoS, (mIfS (mOr (mB (mCall gIsi (mCons (mVar 1) (mCons (pur (.rf (.ty "tuple"))) (pur []))))) (mB (mCall gIsi (mCons (mVar 1) (mCons (pur (.rf (.ty "list"))) (pur [])))))) m mNil) [.dat (.tup ds), .dat (.tup ds), .un] = m [.dat (.tup ds), .dat (.tup ds), .un] := fun m => by
      simp [gIsi, tyName, kb1, kb16, mPost, mPre, clrs, frzs, clr1, frz1, runP, runO, runQ, ansOf, outQ, env0, envQ, mSeq, mNil, mRet, mRetO, mRetOwn, mRetN, mSet, mSetO, mAsg, mIfS, mThen, mDrop, mApp, mPut, mFor, forGo, mAug, mFn, mFnO, mFnQ, bnd, pur, lft, mCons, mVar, mOp, mUn, mTup, mLst, mLstO, mB, asB, mNot, mAnd, mOr, mAndV, mOrV, mNotV, mIf, mChain, mCall, ansM, mPop, mLenN, mItemN, mSl, mSlO, mCatO, mListO, mListRev, mFz, mLc, lcGo, wipeE, backE, gdName, gdTup, setL, Ent.get, Ent.put, gLen, gOne, gTwo, gI, gAdd, DL.gSub, gMul, gDiv, gMod, gPow, gLt, gLe, gGt, gGe, gNeg, gEqS, gNeS, gIsN, gInt, gAbs, gMin2, gMax2, gStr, gTuple, gList, gIx, seqOf, lstOf, tupOf, asI, rng1, rng2, gSlL, gSlT, gCatS, gCatL, gCatT, tyName, mTruth, gTruth, mDct, intKeys, gKd, gUpper, gdLst, mNewB, mDGet, mDPut, dkAt, keyD, runB, envB, outB, mMake, mFld, mFldN, mFldPut, insAt, partsOf, putS, mMeth, mCallO, OB.frz, zipD, gdTwo, boolsOf, gAny, gAll, mExt, mKeys, keyAsD]
    refine (c1 _).trans ?_
    refine (seq_nx (ε' := [.dat (.tup ds), .dat (.tup ds), .un]) (by simp [gIsi, tyName, kb1, kb16, mPost, mPre, clrs, frzs, clr1, frz1, runP, runO, runQ, ansOf, outQ, env0, envQ, mSeq, mNil, mRet, mRetO, mRetOwn, mRetN, mSet, mSetO, mAsg, mIfS, mThen, mDrop, mApp, mPut, mFor, forGo, mAug, mFn, mFnO, mFnQ, bnd, pur, lft, mCons, mVar, mOp, mUn, mTup, mLst, mLstO, mB, asB, mNot, mAnd, mOr, mAndV, mOrV, mNotV, mIf, mChain, mCall, ansM, mPop, mLenN, mItemN, mSl, mSlO, mCatO, mListO, mListRev, mFz, mLc, lcGo, wipeE, backE, gdName, gdTup, setL, Ent.get, Ent.put, gLen, gOne, gTwo, gI, gAdd, DL.gSub, gMul, gDiv, gMod, gPow, gLt, gLe, gGt, gGe, gNeg, gEqS, gNeS, gIsN, gInt, gAbs, gMin2, gMax2, gStr, gTuple, gList, gIx, seqOf, lstOf, tupOf, asI, rng1, rng2, gSlL, gSlT, gCatS, gCatL, gCatT, tyName, mTruth, gTruth, mDct, intKeys, gKd, gUpper, gdLst, mNewB, mDGet, mDPut, dkAt, keyD, runB, envB, outB, mMake, mFld, mFldN, mFldPut, insAt, partsOf, putS, mMeth, mCallO, OB.frz, zipD, gdTwo, boolsOf, gAny, gAll, mExt, mKeys, keyAsD])).trans ?_
    refine (seq_nx (ε' := [.dat (.tup ds), .dat (.tup ds), .un]) (by simp [gIsi, tyName, kb1, kb16, mPost, mPre, clrs, frzs, clr1, frz1, runP, runO, runQ, ansOf, outQ, env0, envQ, mSeq, mNil, mRet, mRetO, mRetOwn, mRetN, mSet, mSetO, mAsg, mIfS, mThen, mDrop, mApp, mPut, mFor, forGo, mAug, mFn, mFnO, mFnQ, bnd, pur, lft, mCons, mVar, mOp, mUn, mTup, mLst, mLstO, mB, asB, mNot, mAnd, mOr, mAndV, mOrV, mNotV, mIf, mChain, mCall, ansM, mPop, mLenN, mItemN, mSl, mSlO, mCatO, mListO, mListRev, mFz, mLc, lcGo, wipeE, backE, gdName, gdTup, setL, Ent.get, Ent.put, gLen, gOne, gTwo, gI, gAdd, DL.gSub, gMul, gDiv, gMod, gPow, gLt, gLe, gGt, gGe, gNeg, gEqS, gNeS, gIsN, gInt, gAbs, gMin2, gMax2, gStr, gTuple, gList, gIx, seqOf, lstOf, tupOf, asI, rng1, rng2, gSlL, gSlT, gCatS, gCatL, gCatT, tyName, mTruth, gTruth, mDct, intKeys, gKd, gUpper, gdLst, mNewB, mDGet, mDPut, dkAt, keyD, runB, envB, outB, mMake, mFld, mFldN, mFldPut, insAt, partsOf, putS, mMeth, mCallO, OB.frz, zipD, gdTwo, boolsOf, gAny, gAll, mExt, mKeys, keyAsD])).trans ?_
    refine (seq_nx (ε' := [.dat (.tup ds), .dat (.tup ds), .un]) (by simp [mIfS, mThen, mB, mOp, mNil, bnd, lft, mLenN, gNeS, asB])).trans ?_
    exact (seq_nx l2).trans rfl
  exact (sm_unf n _).trans (congrArg ansOf e)
theorem same_ok : ∀ (n : Nat) (d : D), okD n d → mN_law_same n [d, d] = some (.ret (.bl true))
  | 0, d, h => h.elim
  | n + 1, d, h => by
    cases d with
    | non => simp [mN_law_same, g_law_same, gIsi, tyName, kb17, kb18, mPost, mPre, clrs, frzs, clr1, frz1, runP, runO, runQ, ansOf, outQ, env0, envQ, mSeq, mNil, mRet, mRetO, mRetOwn, mRetN, mSet, mSetO, mAsg, mIfS, mThen, mDrop, mApp, mPut, mFor, forGo, mAug, mFn, mFnO, mFnQ, bnd, pur, lft, mCons, mVar, mOp, mUn, mTup, mLst, mLstO, mB, asB, mNot, mAnd, mOr, mAndV, mOrV, mNotV, mIf, mChain, mCall, ansM, mPop, mLenN, mItemN, mSl, mSlO, mCatO, mListO, mListRev, mFz, mLc, lcGo, wipeE, backE, gdName, gdTup, setL, Ent.get, Ent.put, gLen, gOne, gTwo, gI, gAdd, DL.gSub, gMul, gDiv, gMod, gPow, gLt, gLe, gGt, gGe, gNeg, gEqS, gNeS, gIsN, gInt, gAbs, gMin2, gMax2, gStr, gTuple, gList, gIx, seqOf, lstOf, tupOf, asI, rng1, rng2, gSlL, gSlT, gCatS, gCatL, gCatT, tyName, mTruth, gTruth, mDct, intKeys, gKd, gUpper, gdLst, mNewB, mDGet, mDPut, dkAt, keyD, runB, envB, outB, mMake, mFld, mFldN, mFldPut, insAt, partsOf, putS, mMeth, mCallO, OB.frz, zipD, gdTwo, boolsOf, gAny, gAll, mExt, mKeys, keyAsD]
    | bl b => simp [mN_law_same, g_law_same, gIsi, tyName, kb6, kb7, kb10, mPost, mPre, clrs, frzs, clr1, frz1, runP, runO, runQ, ansOf, outQ, env0, envQ, mSeq, mNil, mRet, mRetO, mRetOwn, mRetN, mSet, mSetO, mAsg, mIfS, mThen, mDrop, mApp, mPut, mFor, forGo, mAug, mFn, mFnO, mFnQ, bnd, pur, lft, mCons, mVar, mOp, mUn, mTup, mLst, mLstO, mB, asB, mNot, mAnd, mOr, mAndV, mOrV, mNotV, mIf, mChain, mCall, ansM, mPop, mLenN, mItemN, mSl, mSlO, mCatO, mListO, mListRev, mFz, mLc, lcGo, wipeE, backE, gdName, gdTup, setL, Ent.get, Ent.put, gLen, gOne, gTwo, gI, gAdd, DL.gSub, gMul, gDiv, gMod, gPow, gLt, gLe, gGt, gGe, gNeg, gEqS, gNeS, gIsN, gInt, gAbs, gMin2, gMax2, gStr, gTuple, gList, gIx, seqOf, lstOf, tupOf, asI, rng1, rng2, gSlL, gSlT, gCatS, gCatL, gCatT, tyName, mTruth, gTruth, mDct, intKeys, gKd, gUpper, gdLst, mNewB, mDGet, mDPut, dkAt, keyD, runB, envB, outB, mMake, mFld, mFldN, mFldPut, insAt, partsOf, putS, mMeth, mCallO, OB.frz, zipD, gdTwo, boolsOf, gAny, gAll, mExt, mKeys, keyAsD]
    | int i => simp [mN_law_same, g_law_same, gIsi, tyName, kb4, kb5, kb11, kb13, whole_int, mPost, mPre, clrs, frzs, clr1, frz1, runP, runO, runQ, ansOf, outQ, env0, envQ, mSeq, mNil, mRet, mRetO, mRetOwn, mRetN, mSet, mSetO, mAsg, mIfS, mThen, mDrop, mApp, mPut, mFor, forGo, mAug, mFn, mFnO, mFnQ, bnd, pur, lft, mCons, mVar, mOp, mUn, mTup, mLst, mLstO, mB, asB, mNot, mAnd, mOr, mAndV, mOrV, mNotV, mIf, mChain, mCall, ansM, mPop, mLenN, mItemN, mSl, mSlO, mCatO, mListO, mListRev, mFz, mLc, lcGo, wipeE, backE, gdName, gdTup, setL, Ent.get, Ent.put, gLen, gOne, gTwo, gI, gAdd, DL.gSub, gMul, gDiv, gMod, gPow, gLt, gLe, gGt, gGe, gNeg, gEqS, gNeS, gIsN, gInt, gAbs, gMin2, gMax2, gStr, gTuple, gList, gIx, seqOf, lstOf, tupOf, asI, rng1, rng2, gSlL, gSlT, gCatS, gCatL, gCatT, tyName, mTruth, gTruth, mDct, intKeys, gKd, gUpper, gdLst, mNewB, mDGet, mDPut, dkAt, keyD, runB, envB, outB, mMake, mFld, mFldN, mFldPut, insAt, partsOf, putS, mMeth, mCallO, OB.frz, zipD, gdTwo, boolsOf, gAny, gAll, mExt, mKeys, keyAsD]
    | str z => simp [mN_law_same, g_law_same, gIsi, tyName, kb8, kb9, kb12, kb14, kb15, mPost, mPre, clrs, frzs, clr1, frz1, runP, runO, runQ, ansOf, outQ, env0, envQ, mSeq, mNil, mRet, mRetO, mRetOwn, mRetN, mSet, mSetO, mAsg, mIfS, mThen, mDrop, mApp, mPut, mFor, forGo, mAug, mFn, mFnO, mFnQ, bnd, pur, lft, mCons, mVar, mOp, mUn, mTup, mLst, mLstO, mB, asB, mNot, mAnd, mOr, mAndV, mOrV, mNotV, mIf, mChain, mCall, ansM, mPop, mLenN, mItemN, mSl, mSlO, mCatO, mListO, mListRev, mFz, mLc, lcGo, wipeE, backE, gdName, gdTup, setL, Ent.get, Ent.put, gLen, gOne, gTwo, gI, gAdd, DL.gSub, gMul, gDiv, gMod, gPow, gLt, gLe, gGt, gGe, gNeg, gEqS, gNeS, gIsN, gInt, gAbs, gMin2, gMax2, gStr, gTuple, gList, gIx, seqOf, lstOf, tupOf, asI, rng1, rng2, gSlL, gSlT, gCatS, gCatL, gCatT, tyName, mTruth, gTruth, mDct, intKeys, gKd, gUpper, gdLst, mNewB, mDGet, mDPut, dkAt, keyD, runB, envB, outB, mMake, mFld, mFldN, mFldPut, insAt, partsOf, putS, mMeth, mCallO, OB.frz, zipD, gdTwo, boolsOf, gAny, gAll, mExt, mKeys, keyAsD]
    | tup ds => exact same_seq h.1 fun e he => same_ok n e (h.2 e he)
    | _ => exact h.elim
noncomputable def t_law_same (x y : D) : Option Bool := @ite _ (x = y ∧ okD 4 x) (Classical.propDecidable _) (some true) none
theorem tt_law_same {x y : D} {r : Bool} (h : t_law_same x y = some r) : m_law_same [eD x, eD y] = some (.ret (eB r)) := by
  unfold t_law_same at h
  split at h
  · rename_i q
    obtain ⟨rfl, hl⟩ := q
    cases h
    exact same_ok 4 _ hl
  · cases h

def g_law_pairs : MoS := (mSeq (mSet 3 (mFn 2 m_law_common (mCons (mVar 0) (mCons (mVar 1) (pur [])))))
  (mSeq (mIfS (mOr (mNot (mB (mFn 2 m_law_same (mCons (mFn 2 m_overlap (mCons (mVar 0) (mCons (mVar 1) (pur [])))) (mCons (mVar 3) (pur [])))))) (mOr (mNot (mB (mFn 2 m_law_same (mCons (mFn 2 m_overlap (mCons (mVar 1) (mCons (mVar 0) (pur [])))) (mCons (mVar 3) (pur [])))))) (mNot (mB (mFn 2 m_law_same (mCons (mFn 2 m_overlap (mCons (mVar 0) (mCons (mVar 0) (pur [])))) (mCons (mVar 0) (pur [])))))))) (mRet (pur (.bl false))) mNil)
  (mSeq (mSet 4 (mTup (mCons (mOp DL.gSub (mOp gIx (mVar 0) (pur (.int 0))) (mOp gIx (mVar 2) (pur (.int 0)))) (mCons (mOp DL.gSub (mOp gIx (mVar 0) (pur (.int 1))) (mOp gIx (mVar 2) (pur (.int 1)))) (mCons (mOp gAdd (mOp gIx (mVar 0) (pur (.int 2))) (mOp gIx (mVar 2) (pur (.int 2)))) (mCons (mOp gAdd (mOp gIx (mVar 0) (pur (.int 3))) (mOp gIx (mVar 2) (pur (.int 3)))) (pur [])))))))
  (mSeq (mIfS (mNot (mB (mFn 2 m_law_same (mCons (mFn 5 m_widened (mCons (mVar 0) (mCons (mOp gIx (mVar 2) (pur (.int 0))) (mCons (mOp gIx (mVar 2) (pur (.int 1))) (mCons (mOp gIx (mVar 2) (pur (.int 2))) (mCons (mOp gIx (mVar 2) (pur (.int 3))) (pur []))))))) (mCons (mVar 4) (pur [])))))) (mRet (pur (.bl false))) mNil)
  (mRet (mFn 2 m_law_same (mCons (mFn 2 m_overlap (mCons (mVar 4) (mCons (mVar 0) (pur [])))) (mCons (mVar 0) (pur [])))))))))
def m_law_pairs : List D → Option Ans := runP 5 g_law_pairs
theorem ok_law_pairs (T : Txt P w K mg) : FnOk P w K mg base (CXX P w) 6 T.f_law_pairs T.d_law_pairs ["a", "b", "four"] (SpP K 3 m_law_pairs) := by
  exact fn_P (g := g_law_pairs) T.F_law_pairs sc_law_pairs (fun cdv A outer s H E C hA hr tk => (ss_cons (st_set (fun _ p => ps_set (i := 3) sc_law_pairs.nd rfl (by first | exact Or.inl rfl | exact Or.inr rfl) p) (cl_fn (ok_law_common T) tk (hr.mono (by decide)) (by rfl) T.m_law_common T.F_law_common.kp T.b_law_common (ea_cons (ev_var 0 (pv 0)) (ea_cons (ev_var 1 (pv 1)) ea_nil))))
      (ss_cons (st_if (te_w (tw_or (te_not (te_val (cl_fn (ok_law_same T) tk hr (by rfl) T.m_law_same T.F_law_same.kp T.b_law_same (ea_cons (cl_fn (ok_overlap T) tk (hr.mono (by decide)) (by rfl) T.m_overlap T.F_overlap.kp T.b_overlap (ea_cons (ev_var 0 (pv 0)) (ea_cons (ev_var 1 (pv 1)) ea_nil))) (ea_cons (ev_var 3 (pv 3)) ea_nil))))) (tw_or (te_not (te_val (cl_fn (ok_law_same T) tk hr (by rfl) T.m_law_same T.F_law_same.kp T.b_law_same (ea_cons (cl_fn (ok_overlap T) tk (hr.mono (by decide)) (by rfl) T.m_overlap T.F_overlap.kp T.b_overlap (ea_cons (ev_var 1 (pv 1)) (ea_cons (ev_var 0 (pv 0)) ea_nil))) (ea_cons (ev_var 3 (pv 3)) ea_nil))))) (tw_or1 (te_not (te_val (cl_fn (ok_law_same T) tk hr (by rfl) T.m_law_same T.F_law_same.kp T.b_law_same (ea_cons (cl_fn (ok_overlap T) tk (hr.mono (by decide)) (by rfl) T.m_overlap T.F_overlap.kp T.b_overlap (ea_cons (ev_var 0 (pv 0)) (ea_cons (ev_var 0 (pv 0)) ea_nil))) (ea_cons (ev_var 0 (pv 0)) ea_nil))))))))) (ss_one (st_ret ev_bl)) ss_nil)
      (ss_cons (st_set (fun _ p => ps_set (i := 4) sc_law_pairs.nd rfl (by first | exact Or.inl rfl | exact Or.inr rfl) p) (ev_tup (ea_cons (ev_sub (ev_item (fun _ _ => rfl) (ev_var 0 (pv 0)) ev_int) (ev_item (fun _ _ => rfl) (ev_var 2 (pv 2)) ev_int)) (ea_cons (ev_sub (ev_item (fun _ _ => rfl) (ev_var 0 (pv 0)) ev_int) (ev_item (fun _ _ => rfl) (ev_var 2 (pv 2)) ev_int)) (ea_cons (ev_add (ev_item (fun _ _ => rfl) (ev_var 0 (pv 0)) ev_int) (ev_item (fun _ _ => rfl) (ev_var 2 (pv 2)) ev_int)) (ea_cons (ev_add (ev_item (fun _ _ => rfl) (ev_var 0 (pv 0)) ev_int) (ev_item (fun _ _ => rfl) (ev_var 2 (pv 2)) ev_int)) ea_nil))))))
      (ss_cons (st_if (te_not (te_val (cl_fn (ok_law_same T) tk hr (by rfl) T.m_law_same T.F_law_same.kp T.b_law_same (ea_cons (cl_fn (ok_widened T) tk (hr.mono (by decide)) (by rfl) T.m_widened T.F_widened.kp T.b_widened (ea_cons (ev_var 0 (pv 0)) (ea_cons (ev_item (fun _ _ => rfl) (ev_var 2 (pv 2)) ev_int) (ea_cons (ev_item (fun _ _ => rfl) (ev_var 2 (pv 2)) ev_int) (ea_cons (ev_item (fun _ _ => rfl) (ev_var 2 (pv 2)) ev_int) (ea_cons (ev_item (fun _ _ => rfl) (ev_var 2 (pv 2)) ev_int) ea_nil)))))) (ea_cons (ev_var 4 (pv 4)) ea_nil))))) (ss_one (st_ret ev_bl)) ss_nil)
      (ss_one (st_ret (cl_fn (ok_law_same T) tk hr (by rfl) T.m_law_same T.F_law_same.kp T.b_law_same (ea_cons (cl_fn (ok_overlap T) tk (hr.mono (by decide)) (by rfl) T.m_overlap T.F_overlap.kp T.b_overlap (ea_cons (ev_var 4 (pv 4)) (ea_cons (ev_var 0 (pv 0)) ea_nil))) (ea_cons (ev_var 0 (pv 0)) ea_nil)))))))))) (fun _ _ _ h => h)
@[irreducible] noncomputable def t_law_pairs (a0 : (Int × Int × Int × Int)) (b0 : (Int × Int × Int × Int)) (four0 : (List Int)) : Option Bool :=
(t_law_common a0 b0).bind fun r1 =>
(t_overlap a0 b0).bind fun r2 =>
(t_law_same (((eO (e4 eI eI eI eI)) r2)) (((eO (e4 eI eI eI eI)) r1))).bind fun r3 =>
(if (!r3) = true then some true else (t_overlap b0 a0).bind fun r4 =>
(t_law_same (((eO (e4 eI eI eI eI)) r4)) (((eO (e4 eI eI eI eI)) r1))).bind fun r5 =>
(if (!r5) = true then some true else (t_overlap a0 a0).bind fun r6 =>
(t_law_same (((eO (e4 eI eI eI eI)) r6)) (((e4 eI eI eI eI) a0))).bind fun r7 =>
(some ((!r7)))).bind fun b8 =>
(some b8)).bind fun b9 =>
if b9 = true then
some false
else
(atI four0 ((0 : Int))).bind fun it10 =>
(atI four0 ((1 : Int))).bind fun it11 =>
(atI four0 ((2 : Int))).bind fun it12 =>
(atI four0 ((3 : Int))).bind fun it13 =>
letO (((a0.1 - it10), (a0.2.1 - it11), (a0.2.2.1 + it12), (a0.2.2.2 + it13)) : (Int × Int × Int × Int)) fun wider14 =>
(atI four0 ((0 : Int))).bind fun it15 =>
(atI four0 ((1 : Int))).bind fun it16 =>
(atI four0 ((2 : Int))).bind fun it17 =>
(atI four0 ((3 : Int))).bind fun it18 =>
(t_widened a0 it15 it16 it17 it18).bind fun r19 =>
(t_law_same (((e4 eI eI eI eI) r19)) (((e4 eI eI eI eI) wider14))).bind fun r20 =>
if (!r20) = true then
some false
else
(t_overlap wider14 a0).bind fun r21 =>
(t_law_same (((eO (e4 eI eI eI eI)) r21)) (((e4 eI eI eI eI) a0))).bind fun r22 =>
some r22
theorem tq_law_pairs (a0 : (Int × Int × Int × Int)) (b0 : (Int × Int × Int × Int)) (four0 : (List Int)) : QS (RP eB) g_law_pairs [.dat ((e4 eI eI eI eI) a0), .dat ((e4 eI eI eI eI) b0), .dat ((eL eI) four0), .un, .un] (t_law_pairs a0 b0 four0) := by unfold t_law_pairs; exact (qs_set (qc_fn (qc_cons (qc_var rfl (qc_cons (qc_var rfl (qc_nil ⟨rfl, qt_par (t := t_law_common a0 b0) (fun r => Ans.ret ((eO (e4 eI eI eI eI)) r)) (fun _ h => tt_law_common h) fun r1 => ⟨_, rfl, (qs_fr (ε' := [.dat ((e4 eI eI eI eI) a0), .dat ((e4 eI eI eI eI) b0), .dat ((eL eI) four0), .dat ((eO (e4 eI eI eI eI)) r1), .un]) rfl (qs_if (qc_orP (qc_not (qc_B (qc_fn (qc_cons (qc_fn (qc_cons (qc_var rfl (qc_cons (qc_var rfl (qc_nil ⟨rfl, qt_par (t := t_overlap a0 b0) (fun r => Ans.ret ((eO (e4 eI eI eI eI)) r)) (fun _ h => tt_overlap h) fun r2 => ⟨_, rfl, (qc_cons (qc_var rfl (qc_nil ⟨rfl, qt_par (t := t_law_same (((eO (e4 eI eI eI eI)) r2)) (((eO (e4 eI eI eI eI)) r1))) (fun r => Ans.ret (eB r)) (fun _ h => tt_law_same h) fun r3 => ⟨_, rfl, ⟨_, rfl, ⟨_, _, _, (fun b9 => b9), (fun b9 => [.dat ((e4 eI eI eI eI) a0), .dat ((e4 eI eI eI eI) b0), .dat ((eL eI) four0), .dat ((eO (e4 eI eI eI eI)) r1), .un]), true, rfl, ⟨rfl, rfl⟩, (qc_orP (qc_not (qc_B (qc_fn (qc_cons (qc_fn (qc_cons (qc_var rfl (qc_cons (qc_var rfl (qc_nil ⟨rfl, qt_par (t := t_overlap b0 a0) (fun r => Ans.ret ((eO (e4 eI eI eI eI)) r)) (fun _ h => tt_overlap h) fun r4 => ⟨_, rfl, (qc_cons (qc_var rfl (qc_nil ⟨rfl, qt_par (t := t_law_same (((eO (e4 eI eI eI eI)) r4)) (((eO (e4 eI eI eI eI)) r1))) (fun r => Ans.ret (eB r)) (fun _ h => tt_law_same h) fun r5 => ⟨_, rfl, ⟨_, rfl, ⟨_, _, _, (fun b8 => b8), (fun b8 => [.dat ((e4 eI eI eI eI) a0), .dat ((e4 eI eI eI eI) b0), .dat ((eL eI) four0), .dat ((eO (e4 eI eI eI eI)) r1), .un]), true, rfl, ⟨rfl, rfl⟩, (qc_not (qc_B (qc_fn (qc_cons (qc_fn (qc_cons (qc_var rfl (qc_cons (qc_var rfl (qc_nil ⟨rfl, qt_par (t := t_overlap a0 a0) (fun r => Ans.ret ((eO (e4 eI eI eI eI)) r)) (fun _ h => tt_overlap h) fun r6 => ⟨_, rfl, (qc_cons (qc_var rfl (qc_nil ⟨rfl, qt_par (t := t_law_same (((eO (e4 eI eI eI eI)) r6)) (((e4 eI eI eI eI) a0))) (fun r => Ans.ret (eB r)) (fun _ h => tt_law_same h) fun r7 => ⟨_, rfl, ⟨_, rfl, ⟨_, rfl, rfl, rfl⟩⟩⟩⟩)))⟩⟩)))))))))), fun b8 => ⟨_, rfl, rfl, rfl⟩⟩⟩⟩⟩)))⟩⟩))))))))))), fun b9 => ⟨_, _, rfl, (qs_end (qs_ret (qc_pur (fin (nx_rt ⟨_, rfl⟩))))), (qs_skip (qs_set (qc_tup (qc_cons (qc_op (qc_op (qc_var rfl (qc_pur (qt_tot (eI a0.1) rfl (qc_op (qc_var rfl (qc_pur (qt_par (t := atI four0 ((0 : Int))) eI (fun _ h => ixL_ok (e := eI) (xs := four0) h) fun it10 => (qt_tot (eI ((a0.1 - it10))) rfl (qc_cons (qc_op (qc_op (qc_var rfl (qc_pur (qt_tot (eI a0.2.1) rfl (qc_op (qc_var rfl (qc_pur (qt_par (t := atI four0 ((1 : Int))) eI (fun _ h => ixL_ok (e := eI) (xs := four0) h) fun it11 => (qt_tot (eI ((a0.2.1 - it11))) rfl (qc_cons (qc_op (qc_op (qc_var rfl (qc_pur (qt_tot (eI a0.2.2.1) rfl (qc_op (qc_var rfl (qc_pur (qt_par (t := atI four0 ((2 : Int))) eI (fun _ h => ixL_ok (e := eI) (xs := four0) h) fun it12 => (qt_tot (eI ((a0.2.2.1 + it12))) rfl (qc_cons (qc_op (qc_op (qc_var rfl (qc_pur (qt_tot (eI a0.2.2.2) rfl (qc_op (qc_var rfl (qc_pur (qt_par (t := atI four0 ((3 : Int))) eI (fun _ h => ixL_ok (e := eI) (xs := four0) h) fun it13 => (qt_tot (eI ((a0.2.2.2 + it13))) rfl (qc_nil ⟨(Nat.le_of_ble_eq_true rfl), (qs_let (v := ((a0.1 - it10), (a0.2.1 - it11), (a0.2.2.1 + it12), (a0.2.2.2 + it13))) (fun wider14 => [.dat ((e4 eI eI eI eI) a0), .dat ((e4 eI eI eI eI) b0), .dat ((eL eI) four0), .dat ((eO (e4 eI eI eI eI)) r1), .dat ((e4 eI eI eI eI) wider14)]) fun wider14 => (qs_if (qc_not (qc_B (qc_fn (qc_cons (qc_fn (qc_cons (qc_var rfl (qc_cons (qc_op (qc_var rfl (qc_pur (qt_par (t := atI four0 ((0 : Int))) eI (fun _ h => ixL_ok (e := eI) (xs := four0) h) fun it15 => (qc_cons (qc_op (qc_var rfl (qc_pur (qt_par (t := atI four0 ((1 : Int))) eI (fun _ h => ixL_ok (e := eI) (xs := four0) h) fun it16 => (qc_cons (qc_op (qc_var rfl (qc_pur (qt_par (t := atI four0 ((2 : Int))) eI (fun _ h => ixL_ok (e := eI) (xs := four0) h) fun it17 => (qc_cons (qc_op (qc_var rfl (qc_pur (qt_par (t := atI four0 ((3 : Int))) eI (fun _ h => ixL_ok (e := eI) (xs := four0) h) fun it18 => (qc_nil ⟨rfl, qt_par (t := t_widened a0 it15 it16 it17 it18) (fun r => Ans.ret ((e4 eI eI eI eI) r)) (fun _ h => tt_widened h) fun r19 => ⟨_, rfl, (qc_cons (qc_var rfl (qc_nil ⟨rfl, qt_par (t := t_law_same (((e4 eI eI eI eI) r19)) (((e4 eI eI eI eI) wider14))) (fun r => Ans.ret (eB r)) (fun _ h => tt_law_same h) fun r20 => ⟨_, rfl, ⟨_, rfl, ⟨_, _, rfl, (qs_end (qs_ret (qc_pur (fin (nx_rt ⟨_, rfl⟩))))), (qs_skip (qs_ret (qc_fn (qc_cons (qc_fn (qc_cons (qc_var rfl (qc_cons (qc_var rfl (qc_nil ⟨rfl, qt_par (t := t_overlap wider14 a0) (fun r => Ans.ret ((eO (e4 eI eI eI eI)) r)) (fun _ h => tt_overlap h) fun r21 => ⟨_, rfl, (qc_cons (qc_var rfl (qc_nil ⟨rfl, qt_par (t := t_law_same (((eO (e4 eI eI eI eI)) r21)) (((e4 eI eI eI eI) a0))) (fun r => Ans.ret (eB r)) (fun _ h => tt_law_same h) fun r22 => ⟨_, rfl, (fin ⟨_, rfl⟩)⟩⟩)))⟩⟩))))))))))⟩⟩⟩⟩)))⟩⟩))))))))))))))))))))))))))))))⟩))))))))))))))))))))))))))))))))))))))))))))))))⟩⟩⟩⟩⟩)))⟩⟩)))))))))))))⟩⟩)))))))
theorem tt_law_pairs {a0 : (Int × Int × Int × Int)} {b0 : (Int × Int × Int × Int)} {four0 : (List Int)} {r : Bool} (h : t_law_pairs a0 b0 four0 = some r) : m_law_pairs [(e4 eI eI eI eI) a0, (e4 eI eI eI eI) b0, (eL eI) four0] = some (.ret (eB r)) := run_P (ε := [.dat ((e4 eI eI eI eI) a0), .dat ((e4 eI eI eI eI) b0), .dat ((eL eI) four0), .un, .un]) rfl (tq_law_pairs a0 b0 four0) h
def bd_law_arounds_1 : Mo D := (mTup (mCons (mOp gIx (mVar 5) (pur (.int 0))) (mCons (mOp gIx (mVar 5) (pur (.int 1))) (mCons (mOp gAdd (mOp gIx (mVar 5) (pur (.int 0))) (pur (.int 1))) (mCons (mOp gAdd (mOp gIx (mVar 5) (pur (.int 1))) (pur (.int 1))) (pur []))))))
def bd_law_arounds_2 : Mo (List D) := (mLc [5] (bnd (mVar 1) fun d => lft (lstOf d)) (gdName 5) (pur true) bd_law_arounds_1)
def g_law_arounds : MoS := (mSeq (mSetO 2 (mListO (mCons (mVar 0) (pur []))))
  (mSeq (mSetO 3 (mListO (mCons (mVar 1) (pur []))))
  (mSeq (mSetO 4 bd_law_arounds_2)
  (mSeq (mPre [2] (mIfS (mOr (mNot (mB (mFn 2 m_law_same (mCons (mFn 1 m_aroundL (mCons (mVar 2) (pur []))) (mCons (mFn 1 m_law_hull (mCons (mVar 0) (pur []))) (pur [])))))) (mNot (mB (mFn 2 m_law_same (mCons (mFn 1 m_around (mCons (mCall (gOne gTuple) (mCons (mVar 0) (pur []))) (pur []))) (mCons (mFn 1 m_law_hull (mCons (mVar 0) (pur []))) (pur []))))))) (mRet (pur (.bl false))) mNil))
  (mSeq (mPre [3, 4] (mIfS (mNot (mB (mFn 2 m_law_same (mCons (mFn 1 m_around_placesL (mCons (mVar 3) (pur []))) (mCons (mFn 1 m_law_hull (mCons (mVar 4) (pur []))) (pur [])))))) (mRet (pur (.bl false))) mNil))
  (mSeq (mIfS (mNot (mB (mFn 2 m_law_same (mCons (mFn 1 m_around_places (mCons (mCall (gOne gTuple) (mCons (mVar 1) (pur []))) (pur []))) (mCons (mFn 1 m_law_hull (mCons (mVar 4) (pur []))) (pur [])))))) (mRet (pur (.bl false))) mNil)
  (mRet (mAndV (mOp gEq (mVar 2) (mVar 0)) (mOp gEq (mVar 3) (mVar 1))))))))))
def m_law_arounds : List D → Option Ans := runP 6 g_law_arounds
theorem ok_law_arounds (T : Txt P w K mg) : FnOk P w K mg base (CXX P w) 6 T.f_law_arounds T.d_law_arounds ["rects", "places"] (SpP K 2 m_law_arounds) := by
  exact fn_P (g := g_law_arounds) T.F_law_arounds sc_law_arounds (fun cdv A outer s H E C hA hr tk => (ss_cons (st_setO (fun _ p => ps_set (i := 2) sc_law_arounds.nd rfl (by first | exact Or.inl rfl | exact Or.inr rfl) p) (eo_list (ea_cons (ev_var 0 (pv 0)) ea_nil) fun _ p => pe_callTy call_list_of (by rfl) T.z_list (by decide +kernel) p))
      (ss_cons (st_setO (fun _ p => ps_set (i := 3) sc_law_arounds.nd rfl (by first | exact Or.inl rfl | exact Or.inr rfl) p) (eo_list (ea_cons (ev_var 1 (pv 1)) ea_nil) fun _ p => pe_callTy call_list_of (by rfl) T.z_list (by decide +kernel) p))
      (ss_cons (st_lc (i := 4) (own := [("place", 5)]) rfl sc_law_arounds.nd rfl rfl (sw_true rfl rfl rfl (by decide +kernel)) (ei_list (ev_var 1 (pv 1))) (blkOk_by (own := [("place", 5)]) (N := N_law_arounds) (sc := defScope s_law_arounds) (by decide +kernel)) (fun _ _ _ _ _ => (pg_name (i := 5) sc_law_arounds.nd rfl (by first | exact Or.inl rfl | exact Or.inr rfl))) (sg_name (i := 5)) (fun _ _ _ _ _ => pt_nilD) (fun _ _ _ _ _ => (ev_tup (ea_cons (ev_item (fun _ _ => rfl) (ev_var 5 (pv 5)) ev_int) (ea_cons (ev_item (fun _ _ => rfl) (ev_var 5 (pv 5)) ev_int) (ea_cons (ev_add (ev_item (fun _ _ => rfl) (ev_var 5 (pv 5)) ev_int) ev_int) (ea_cons (ev_add (ev_item (fun _ _ => rfl) (ev_var 5 (pv 5)) ev_int) ev_int) ea_nil)))))) (by decide) (by decide))
      (ss_cons (st_pre [2] (st_if (te_w (tw_or (te_not (te_val (cl_fn (ok_law_same T) tk hr (by rfl) T.m_law_same T.F_law_same.kp T.b_law_same (ea_cons (cl_fn (ok_aroundL T) tk (hr.mono (by decide)) (by rfl) T.m_around T.F_around.kp T.b_around (ea_cons (ev_var 2 (pv 2)) ea_nil)) (ea_cons (cl_fn (ok_law_hull T) tk (hr.mono (by decide)) (by rfl) T.m_law_hull T.F_law_hull.kp T.b_law_hull (ea_cons (ev_var 0 (pv 0)) ea_nil)) ea_nil))))) (tw_or1 (te_not (te_val (cl_fn (ok_law_same T) tk hr (by rfl) T.m_law_same T.F_law_same.kp T.b_law_same (ea_cons (cl_fn (ok_around T) tk (hr.mono (by decide)) (by rfl) T.m_around T.F_around.kp T.b_around (ea_cons (ev_cb vc_tuple (ea_cons (ev_var 0 (pv 0)) ea_nil) fun _ p => pe_callTy call_tuple_of (by rfl) T.z_tuple (by decide +kernel) p) ea_nil)) (ea_cons (cl_fn (ok_law_hull T) tk (hr.mono (by decide)) (by rfl) T.m_law_hull T.F_law_hull.kp T.b_law_hull (ea_cons (ev_var 0 (pv 0)) ea_nil)) ea_nil)))))))) (ss_one (st_ret ev_bl)) ss_nil))
      (ss_cons (st_pre [3, 4] (st_if (te_not (te_val (cl_fn (ok_law_same T) tk hr (by rfl) T.m_law_same T.F_law_same.kp T.b_law_same (ea_cons (cl_fn (ok_around_placesL T) tk (hr.mono (by decide)) (by rfl) T.m_around_places T.F_around_places.kp T.b_around_places (ea_cons (ev_var 3 (pv 3)) ea_nil)) (ea_cons (cl_fn (ok_law_hull T) tk (hr.mono (by decide)) (by rfl) T.m_law_hull T.F_law_hull.kp T.b_law_hull (ea_cons (ev_var 4 (pv 4)) ea_nil)) ea_nil))))) (ss_one (st_ret ev_bl)) ss_nil))
      (ss_cons (st_if (te_not (te_val (cl_fn (ok_law_same T) tk hr (by rfl) T.m_law_same T.F_law_same.kp T.b_law_same (ea_cons (cl_fn (ok_around_places T) tk (hr.mono (by decide)) (by rfl) T.m_around_places T.F_around_places.kp T.b_around_places (ea_cons (ev_cb vc_tuple (ea_cons (ev_var 1 (pv 1)) ea_nil) fun _ p => pe_callTy call_tuple_of (by rfl) T.z_tuple (by decide +kernel) p) ea_nil)) (ea_cons (cl_fn (ok_law_hull T) tk (hr.mono (by decide)) (by rfl) T.m_law_hull T.F_law_hull.kp T.b_law_hull (ea_cons (ev_var 4 (pv 4)) ea_nil)) ea_nil))))) (ss_one (st_ret ev_bl)) ss_nil)
      (ss_one (st_ret (ev_and (ev_eq (hu64 hr) (ev_var 2 (pv 2)) (ev_var 0 (pv 0))) (ev_one (ev_eq (hu64 hr) (ev_var 3 (pv 3)) (ev_var 1 (pv 1)))))))))))))) (fun _ _ _ h => h)
@[irreducible] noncomputable def u_law_arounds_1  : Pl → Option (Int × Int × Int × Int) := fun (a1 : Pl) =>
some ((a1.1, a1.2.1, (a1.1 + (1 : Int)), (a1.2.1 + (1 : Int))))
@[irreducible] noncomputable def t_law_arounds (rects0 : (List (Int × Int × Int × Int))) (places0 : (List Pl)) : Option Bool :=
(capG places0.length).bind fun _ => (mapO u_law_arounds_1 places0).bind fun cs2 =>
(t_aroundL rects0).bind fun r3 =>
(t_law_hull rects0).bind fun r4 =>
(t_law_same (((eO (e4 eI eI eI eI)) r3)) (((eO (e4 eI eI eI eI)) r4))).bind fun r5 =>
(if (!r5) = true then some true else (t_around rects0).bind fun r6 =>
(t_law_hull rects0).bind fun r7 =>
(t_law_same (((eO (e4 eI eI eI eI)) r6)) (((eO (e4 eI eI eI eI)) r7))).bind fun r8 =>
(some ((!r8)))).bind fun b9 =>
if b9 = true then
some false
else
(t_around_placesL places0).bind fun r10 =>
(t_law_hull cs2).bind fun r11 =>
(t_law_same (((eO (e4 eI eI eI eI)) r10)) (((eO (e4 eI eI eI eI)) r11))).bind fun r12 =>
if (!r12) = true then
some false
else
(t_around_places places0).bind fun r13 =>
(t_law_hull cs2).bind fun r14 =>
(t_law_same (((eO (e4 eI eI eI eI)) r13)) (((eO (e4 eI eI eI eI)) r14))).bind fun r15 =>
if (!r15) = true then
some false
else
(eqDG ((eL (e4 eI eI eI eI)) rects0) ((eL (e4 eI eI eI eI)) rects0)).bind fun b16 =>
(if b16 = true then (eqDG ((eL ePl) places0) ((eL ePl) places0)).bind fun b17 =>
(some b17) else some false).bind fun b18 =>
some b18
theorem tq_law_arounds (rects0 : (List (Int × Int × Int × Int))) (places0 : (List Pl)) : QS (RP eB) g_law_arounds [.dat ((eL (e4 eI eI eI eI)) rects0), .dat ((eL ePl) places0), .un, .un, .un, .un] (t_law_arounds rects0 places0) := by unfold t_law_arounds; exact (qs_setO (qc_listO (qc_cons (qc_var rfl (qc_nil ⟨_, _, rfl, rfl, (qs_fr (ε' := [.dat ((eL (e4 eI eI eI eI)) rects0), .dat ((eL ePl) places0), .own (List.map (e4 eI eI eI eI) rects0), .un, .un, .un]) rfl (qs_setO (qc_listO (qc_cons (qc_var rfl (qc_nil ⟨_, _, rfl, rfl, (qs_fr (ε' := [.dat ((eL (e4 eI eI eI eI)) rects0), .dat ((eL ePl) places0), .own (List.map (e4 eI eI eI eI) rects0), .own (List.map ePl places0), .un, .un]) rfl (qs_setO (qc_lcA (qc_bnd (qc_var rfl (qc_lft (qt_tot _ rfl ⟨_, _, places0, ePl, u_law_arounds_1, (e4 eI eI eI eI), _, rfl, rfl, rfl, rfl, (fun a1 => ⟨_, rfl, rfl, by unfold u_law_arounds_1; exact (qc_tup (qc_cons (qc_op (qc_var rfl (qc_pur (qt_tot (eI a1.1) (pl0 _) (qc_cons (qc_op (qc_var rfl (qc_pur (qt_tot (eI a1.2.1) (pl1 _) (qc_cons (qc_op (qc_op (qc_var rfl (qc_pur (qt_tot (eI a1.1) (pl0 _) (qc_pur (qt_tot (eI ((a1.1 + (1 : Int)))) rfl (qc_cons (qc_op (qc_op (qc_var rfl (qc_pur (qt_tot (eI a1.2.1) (pl1 _) (qc_pur (qt_tot (eI ((a1.2.1 + (1 : Int)))) rfl (qc_nil ⟨(Nat.le_of_ble_eq_true rfl), ⟨_, rfl, rfl, rfl⟩⟩))))))))))))))))))))))))))))⟩), fun cs2 => (qs_fr (ε' := [.dat ((eL (e4 eI eI eI eI)) rects0), .dat ((eL ePl) places0), .own (List.map (e4 eI eI eI eI) rects0), .own (List.map ePl places0), .own (List.map (e4 eI eI eI eI) cs2), .un]) rfl (qs_pre (qs_fr (ε' := [.dat ((eL (e4 eI eI eI eI)) rects0), .dat ((eL ePl) places0), .dat ((eL (e4 eI eI eI eI)) rects0), .own (List.map ePl places0), .own (List.map (e4 eI eI eI eI) cs2), .un]) rfl (qs_if (qc_orP (qc_not (qc_B (qc_fn (qc_cons (qc_fn (qc_cons (qc_var rfl (qc_nil ⟨rfl, qt_par (t := t_aroundL rects0) (fun r => Ans.ret ((eO (e4 eI eI eI eI)) r)) (fun _ h => tt_aroundL h) fun r3 => ⟨_, rfl, (qc_cons (qc_fn (qc_cons (qc_var rfl (qc_nil ⟨rfl, qt_par (t := t_law_hull rects0) (fun r => Ans.ret ((eO (e4 eI eI eI eI)) r)) (fun _ h => tt_law_hull h) fun r4 => ⟨_, rfl, (qc_nil ⟨rfl, qt_par (t := t_law_same (((eO (e4 eI eI eI eI)) r3)) (((eO (e4 eI eI eI eI)) r4))) (fun r => Ans.ret (eB r)) (fun _ h => tt_law_same h) fun r5 => ⟨_, rfl, ⟨_, rfl, ⟨_, _, _, (fun b9 => b9), (fun b9 => [.dat ((eL (e4 eI eI eI eI)) rects0), .dat ((eL ePl) places0), .dat ((eL (e4 eI eI eI eI)) rects0), .own (List.map ePl places0), .own (List.map (e4 eI eI eI eI) cs2), .un]), true, rfl, ⟨rfl, rfl⟩, (qc_not (qc_B (qc_fn (qc_cons (qc_fn (qc_cons (qc_call (qc_cons (qc_var rfl (qc_nil (qt_tot ((eT (e4 eI eI eI eI)) rects0) rfl (qc_nil ⟨rfl, qt_par (t := t_around rects0) (fun r => Ans.ret ((eO (e4 eI eI eI eI)) r)) (fun _ h => tt_around h) fun r6 => ⟨_, rfl, (qc_cons (qc_fn (qc_cons (qc_var rfl (qc_nil ⟨rfl, qt_par (t := t_law_hull rects0) (fun r => Ans.ret ((eO (e4 eI eI eI eI)) r)) (fun _ h => tt_law_hull h) fun r7 => ⟨_, rfl, (qc_nil ⟨rfl, qt_par (t := t_law_same (((eO (e4 eI eI eI eI)) r6)) (((eO (e4 eI eI eI eI)) r7))) (fun r => Ans.ret (eB r)) (fun _ h => tt_law_same h) fun r8 => ⟨_, rfl, ⟨_, rfl, ⟨_, rfl, rfl, rfl⟩⟩⟩⟩)⟩⟩)))))⟩⟩)))))))))))), fun b9 => ⟨_, _, rfl, (qs_end (qs_ret (qc_pur (fin (nx_rt ⟨_, rfl⟩))))), (qs_skip (qs_pre (qs_fr (ε' := [.dat ((eL (e4 eI eI eI eI)) rects0), .dat ((eL ePl) places0), .dat ((eL (e4 eI eI eI eI)) rects0), .dat ((eL ePl) places0), .dat ((eL (e4 eI eI eI eI)) cs2), .un]) rfl (qs_if (qc_not (qc_B (qc_fn (qc_cons (qc_fn (qc_cons (qc_var rfl (qc_nil ⟨rfl, qt_par (t := t_around_placesL places0) (fun r => Ans.ret ((eO (e4 eI eI eI eI)) r)) (fun _ h => tt_around_placesL h) fun r10 => ⟨_, rfl, (qc_cons (qc_fn (qc_cons (qc_var rfl (qc_nil ⟨rfl, qt_par (t := t_law_hull cs2) (fun r => Ans.ret ((eO (e4 eI eI eI eI)) r)) (fun _ h => tt_law_hull h) fun r11 => ⟨_, rfl, (qc_nil ⟨rfl, qt_par (t := t_law_same (((eO (e4 eI eI eI eI)) r10)) (((eO (e4 eI eI eI eI)) r11))) (fun r => Ans.ret (eB r)) (fun _ h => tt_law_same h) fun r12 => ⟨_, rfl, ⟨_, rfl, ⟨_, _, rfl, (qs_end (qs_ret (qc_pur (fin (nx_rt ⟨_, rfl⟩))))), (qs_skip (qs_if (qc_not (qc_B (qc_fn (qc_cons (qc_fn (qc_cons (qc_call (qc_cons (qc_var rfl (qc_nil (qt_tot ((eT ePl) places0) rfl (qc_nil ⟨rfl, qt_par (t := t_around_places places0) (fun r => Ans.ret ((eO (e4 eI eI eI eI)) r)) (fun _ h => tt_around_places h) fun r13 => ⟨_, rfl, (qc_cons (qc_fn (qc_cons (qc_var rfl (qc_nil ⟨rfl, qt_par (t := t_law_hull cs2) (fun r => Ans.ret ((eO (e4 eI eI eI eI)) r)) (fun _ h => tt_law_hull h) fun r14 => ⟨_, rfl, (qc_nil ⟨rfl, qt_par (t := t_law_same (((eO (e4 eI eI eI eI)) r13)) (((eO (e4 eI eI eI eI)) r14))) (fun r => Ans.ret (eB r)) (fun _ h => tt_law_same h) fun r15 => ⟨_, rfl, ⟨_, rfl, ⟨_, _, rfl, (qs_end (qs_ret (qc_pur (fin (nx_rt ⟨_, rfl⟩))))), (qs_skip (qs_ret (qc_andVP (qc_op (qc_var rfl (qc_var rfl (qt_par (t := eqDG ((eL (e4 eI eI eI eI)) rects0) ((eL (e4 eI eI eI eI)) rects0)) eB (fun _ h => eqDG_ok h) fun b16 => ⟨_, _, _, _, (fun b18 => b18), (fun b18 => [.dat ((eL (e4 eI eI eI eI)) rects0), .dat ((eL ePl) places0), .dat ((eL (e4 eI eI eI eI)) rects0), .dat ((eL ePl) places0), .dat ((eL (e4 eI eI eI eI)) cs2), .un]), false, rfl, rfl, ⟨rfl, rfl⟩, (qc_op (qc_var rfl (qc_var rfl (qt_par (t := eqDG ((eL ePl) places0) ((eL ePl) places0)) eB (fun _ h => eqDG_ok h) fun b17 => ⟨_, rfl, rfl, rfl⟩)))), fun b18 => (fin ⟨_, rfl⟩)⟩)))))))⟩⟩⟩⟩)⟩⟩)))))⟩⟩))))))))))))))⟩⟩⟩⟩)⟩⟩)))))⟩⟩))))))))))))⟩⟩⟩⟩⟩)⟩⟩)))))⟩⟩)))))))))))))⟩)))))))⟩))))))⟩)))))
theorem tt_law_arounds {rects0 : (List (Int × Int × Int × Int))} {places0 : (List Pl)} {r : Bool} (h : t_law_arounds rects0 places0 = some r) : m_law_arounds [(eL (e4 eI eI eI eI)) rects0, (eL ePl) places0] = some (.ret (eB r)) := run_P (ε := [.dat ((eL (e4 eI eI eI eI)) rects0), .dat ((eL ePl) places0), .un, .un, .un, .un]) rfl (tq_law_arounds rects0 places0) h
def bd_law_inside_1 : MoS := (mPost [] [] (mIfS (mNot (mB (mFn 2 m_law_same (mCons (mFn 3 m_holds (mCons (mVar 0) (mCons (mVar 1) (mCons (mVar 2) (pur []))))) (mCons (pur (.bl false)) (pur [])))))) (mRet (pur (.bl false))) mNil))
def g_law_inside : MoS := (mSeq (mSet 3 (mAndV (mOp gLe (mOp gIx (mVar 0) (pur (.int 0))) (mVar 1)) (mAndV (mOp gLe (mVar 1) (mOp DL.gSub (mOp gIx (mVar 0) (pur (.int 2))) (pur (.int 1)))) (mAndV (mOp gLe (mOp gIx (mVar 0) (pur (.int 1))) (mVar 2)) (mOp gLe (mVar 2) (mOp DL.gSub (mOp gIx (mVar 0) (pur (.int 3))) (pur (.int 1))))))))
  (mSeq (mIfS (mNot (mB (mFn 2 m_law_same (mCons (mFn 3 m_holds (mCons (mVar 0) (mCons (mVar 1) (mCons (mVar 2) (pur []))))) (mCons (mVar 3) (pur [])))))) (mRet (pur (.bl false))) mNil)
  (mSeq (mIfS (mOr (mNot (mB (mFn 2 m_law_same (mCons (mFn 3 m_holds (mCons (mVar 0) (mCons (mOp gIx (mVar 0) (pur (.int 0))) (mCons (mOp gIx (mVar 0) (pur (.int 1))) (pur []))))) (mCons (pur (.bl true)) (pur [])))))) (mNot (mB (mFn 2 m_law_same (mCons (mFn 3 m_holds (mCons (mVar 0) (mCons (mOp DL.gSub (mOp gIx (mVar 0) (pur (.int 2))) (pur (.int 1))) (mCons (mOp DL.gSub (mOp gIx (mVar 0) (pur (.int 3))) (pur (.int 1))) (pur []))))) (mCons (pur (.bl true)) (pur []))))))) (mRet (pur (.bl false))) mNil)
  (mSeq (mFor (bnd (mTup (mCons (mTup (mCons (mOp DL.gSub (mOp gIx (mVar 0) (pur (.int 0))) (pur (.int 1))) (mCons (mOp gIx (mVar 0) (pur (.int 1))) (pur [])))) (mCons (mTup (mCons (mOp gIx (mVar 0) (pur (.int 0))) (mCons (mOp DL.gSub (mOp gIx (mVar 0) (pur (.int 1))) (pur (.int 1))) (pur [])))) (mCons (mTup (mCons (mOp gIx (mVar 0) (pur (.int 2))) (mCons (mOp DL.gSub (mOp gIx (mVar 0) (pur (.int 3))) (pur (.int 1))) (pur [])))) (mCons (mTup (mCons (mOp DL.gSub (mOp gIx (mVar 0) (pur (.int 2))) (pur (.int 1))) (mCons (mOp gIx (mVar 0) (pur (.int 3))) (pur [])))) (mCons (mTup (mCons (mOp gIx (mVar 0) (pur (.int 2))) (mCons (mOp gIx (mVar 0) (pur (.int 3))) (pur [])))) (pur []))))))) fun d => lft (tupOf d)) (gdTup [1, 2]) bd_law_inside_1)
  (mRet (pur (.bl true)))))))
def m_law_inside : List D → Option Ans := runP 4 g_law_inside
theorem ok_law_inside (T : Txt P w K mg) : FnOk P w K mg base (CXX P w) 6 T.f_law_inside T.d_law_inside ["a", "x", "y"] (SpP K 3 m_law_inside) := by
  exact fn_P (g := g_law_inside) T.F_law_inside sc_law_inside (fun cdv A outer s H E C hA hr tk => (ss_cons (st_set (fun _ p => ps_set (i := 3) sc_law_inside.nd rfl (by first | exact Or.inl rfl | exact Or.inr rfl) p) (ev_and (ev_le (ev_item (fun _ _ => rfl) (ev_var 0 (pv 0)) ev_int) (ev_var 1 (pv 1))) (ev_and (ev_le (ev_var 1 (pv 1)) (ev_sub (ev_item (fun _ _ => rfl) (ev_var 0 (pv 0)) ev_int) ev_int)) (ev_and (ev_le (ev_item (fun _ _ => rfl) (ev_var 0 (pv 0)) ev_int) (ev_var 2 (pv 2))) (ev_one (ev_le (ev_var 2 (pv 2)) (ev_sub (ev_item (fun _ _ => rfl) (ev_var 0 (pv 0)) ev_int) ev_int)))))))
      (ss_cons (st_if (te_not (te_val (cl_fn (ok_law_same T) tk hr (by rfl) T.m_law_same T.F_law_same.kp T.b_law_same (ea_cons (cl_fn (ok_holds T) tk (hr.mono (by decide)) (by rfl) T.m_holds T.F_holds.kp T.b_holds (ea_cons (ev_var 0 (pv 0)) (ea_cons (ev_var 1 (pv 1)) (ea_cons (ev_var 2 (pv 2)) ea_nil)))) (ea_cons (ev_var 3 (pv 3)) ea_nil))))) (ss_one (st_ret ev_bl)) ss_nil)
      (ss_cons (st_if (te_w (tw_or (te_not (te_val (cl_fn (ok_law_same T) tk hr (by rfl) T.m_law_same T.F_law_same.kp T.b_law_same (ea_cons (cl_fn (ok_holds T) tk (hr.mono (by decide)) (by rfl) T.m_holds T.F_holds.kp T.b_holds (ea_cons (ev_var 0 (pv 0)) (ea_cons (ev_item (fun _ _ => rfl) (ev_var 0 (pv 0)) ev_int) (ea_cons (ev_item (fun _ _ => rfl) (ev_var 0 (pv 0)) ev_int) ea_nil)))) (ea_cons ev_bl ea_nil))))) (tw_or1 (te_not (te_val (cl_fn (ok_law_same T) tk hr (by rfl) T.m_law_same T.F_law_same.kp T.b_law_same (ea_cons (cl_fn (ok_holds T) tk (hr.mono (by decide)) (by rfl) T.m_holds T.F_holds.kp T.b_holds (ea_cons (ev_var 0 (pv 0)) (ea_cons (ev_sub (ev_item (fun _ _ => rfl) (ev_var 0 (pv 0)) ev_int) ev_int) (ea_cons (ev_sub (ev_item (fun _ _ => rfl) (ev_var 0 (pv 0)) ev_int) ev_int) ea_nil)))) (ea_cons ev_bl ea_nil)))))))) (ss_one (st_ret ev_bl)) ss_nil)
      (ss_cons (st_for (ei_tup (ev_tup (ea_cons (ev_tup (ea_cons (ev_sub (ev_item (fun _ _ => rfl) (ev_var 0 (pv 0)) ev_int) ev_int) (ea_cons (ev_item (fun _ _ => rfl) (ev_var 0 (pv 0)) ev_int) ea_nil))) (ea_cons (ev_tup (ea_cons (ev_item (fun _ _ => rfl) (ev_var 0 (pv 0)) ev_int) (ea_cons (ev_sub (ev_item (fun _ _ => rfl) (ev_var 0 (pv 0)) ev_int) ev_int) ea_nil))) (ea_cons (ev_tup (ea_cons (ev_item (fun _ _ => rfl) (ev_var 0 (pv 0)) ev_int) (ea_cons (ev_sub (ev_item (fun _ _ => rfl) (ev_var 0 (pv 0)) ev_int) ev_int) ea_nil))) (ea_cons (ev_tup (ea_cons (ev_sub (ev_item (fun _ _ => rfl) (ev_var 0 (pv 0)) ev_int) ev_int) (ea_cons (ev_item (fun _ _ => rfl) (ev_var 0 (pv 0)) ev_int) ea_nil))) (ea_cons (ev_tup (ea_cons (ev_item (fun _ _ => rfl) (ev_var 0 (pv 0)) ev_int) (ea_cons (ev_item (fun _ _ => rfl) (ev_var 0 (pv 0)) ev_int) ea_nil))) ea_nil))))))) (ss_post [] [] (ss_one (st_if (te_not (te_val (cl_fn (ok_law_same T) tk hr (by rfl) T.m_law_same T.F_law_same.kp T.b_law_same (ea_cons (cl_fn (ok_holds T) tk (hr.mono (by decide)) (by rfl) T.m_holds T.F_holds.kp T.b_holds (ea_cons (ev_var 0 (pv 0)) (ea_cons (ev_var 1 (pv 1)) (ea_cons (ev_var 2 (pv 2)) ea_nil)))) (ea_cons ev_bl ea_nil))))) (ss_one (st_ret ev_bl)) ss_nil))) (sg_tup (is := [1, 2]) (by rfl)) fun _ _ p q => ps_for (passes_of rfl) rfl p (pg_tup (n := 2) rfl (pgs_cons (pg_name (i := 1) sc_law_inside.nd rfl (by first | exact Or.inl rfl | exact Or.inr rfl)) (pgs_cons (pg_name (i := 2) sc_law_inside.nd rfl (by first | exact Or.inl rfl | exact Or.inr rfl)) pgs_nil))) q)
      (ss_one (st_ret ev_bl))))))) (fun _ _ _ h => h)
@[irreducible] noncomputable def u_law_inside_1 (a0 : (Int × Int × Int × Int)) : (Int × Int) → (Int × Int) → Option (LS (Int × Int) Bool) := fun (a10 : (Int × Int)) (s9 : (Int × Int)) =>
(t_holds a0 a10.1 a10.2).bind fun r11 =>
(t_law_same ((eB r11)) ((eB false))).bind fun r12 =>
if (!r12) = true then
some (.out false)
else
some (.go ((a10.1, a10.2)))
@[irreducible] noncomputable def t_law_inside (a0 : (Int × Int × Int × Int)) (x0 : Int) (y0 : Int) : Option Bool :=
letO (((decide (a0.1 ≤ x0)) && ((decide (x0 ≤ (a0.2.2.1 - (1 : Int)))) && ((decide (a0.2.1 ≤ y0)) && (decide (y0 ≤ (a0.2.2.2 - (1 : Int))))))) : Bool) fun due1 =>
(t_holds a0 x0 y0).bind fun r2 =>
(t_law_same ((eB r2)) ((eB due1))).bind fun r3 =>
if (!r3) = true then
some false
else
(t_holds a0 a0.1 a0.2.1).bind fun r4 =>
(t_law_same ((eB r4)) ((eB true))).bind fun r5 =>
(if (!r5) = true then some true else (t_holds a0 ((a0.2.2.1 - (1 : Int))) ((a0.2.2.2 - (1 : Int)))).bind fun r6 =>
(t_law_same ((eB r6)) ((eB true))).bind fun r7 =>
(some ((!r7)))).bind fun b8 =>
if b8 = true then
some false
else
forS (u_law_inside_1 a0) ([((a0.1 - (1 : Int)), a0.2.1), (a0.1, (a0.2.1 - (1 : Int))), (a0.2.2.1, (a0.2.2.2 - (1 : Int))), ((a0.2.2.1 - (1 : Int)), a0.2.2.2), (a0.2.2.1, a0.2.2.2)]) ((x0, y0)) fun s9 =>
some true
theorem tq_law_inside (a0 : (Int × Int × Int × Int)) (x0 : Int) (y0 : Int) : QS (RP eB) g_law_inside [.dat ((e4 eI eI eI eI) a0), .dat (eI x0), .dat (eI y0), .un] (t_law_inside a0 x0 y0) := by unfold t_law_inside; exact (qs_set (qc_andV (qc_op (qc_op (qc_var rfl (qc_pur (qt_tot (eI a0.1) rfl (qc_var rfl (qt_tot (eB ((decide (a0.1 ≤ x0)))) rfl ⟨_, _, rfl, (fun _ => (qc_andV (qc_op (qc_var rfl (qc_op (qc_op (qc_var rfl (qc_pur (qt_tot (eI a0.2.2.1) rfl (qc_pur (qt_tot (eI ((a0.2.2.1 - (1 : Int)))) rfl (qt_tot (eB ((decide (x0 ≤ (a0.2.2.1 - (1 : Int)))))) rfl ⟨_, _, rfl, (fun _ => (qc_andV (qc_op (qc_op (qc_var rfl (qc_pur (qt_tot (eI a0.2.1) rfl (qc_var rfl (qt_tot (eB ((decide (a0.2.1 ≤ y0)))) rfl ⟨_, _, rfl, (fun _ => (qc_op (qc_var rfl (qc_op (qc_op (qc_var rfl (qc_pur (qt_tot (eI a0.2.2.2) rfl (qc_pur (qt_tot (eI ((a0.2.2.2 - (1 : Int)))) rfl (qt_tot (eB ((decide (y0 ≤ (a0.2.2.2 - (1 : Int)))))) rfl ⟨rfl, rfl, rfl⟩))))))))))), ⟨rfl, rfl, rfl⟩⟩))))))))), ⟨rfl, rfl, rfl⟩⟩)))))))))))), (qs_let (v := ((decide (a0.1 ≤ x0)) && ((decide (x0 ≤ (a0.2.2.1 - (1 : Int)))) && ((decide (a0.2.1 ≤ y0)) && (decide (y0 ≤ (a0.2.2.2 - (1 : Int)))))))) (fun due1 => [.dat ((e4 eI eI eI eI) a0), .dat (eI x0), .dat (eI y0), .dat (eB due1)]) fun due1 => (qs_if (qc_not (qc_B (qc_fn (qc_cons (qc_fn (qc_cons (qc_var rfl (qc_cons (qc_var rfl (qc_cons (qc_var rfl (qc_nil ⟨rfl, qt_par (t := t_holds a0 x0 y0) (fun r => Ans.ret (eB r)) (fun _ h => tt_holds h) fun r2 => ⟨_, rfl, (qc_cons (qc_var rfl (qc_nil ⟨rfl, qt_par (t := t_law_same ((eB r2)) ((eB due1))) (fun r => Ans.ret (eB r)) (fun _ h => tt_law_same h) fun r3 => ⟨_, rfl, ⟨_, rfl, ⟨_, _, rfl, (qs_end (qs_ret (qc_pur (fin (nx_rt ⟨_, rfl⟩))))), (qs_skip (qs_if (qc_orP (qc_not (qc_B (qc_fn (qc_cons (qc_fn (qc_cons (qc_var rfl (qc_cons (qc_op (qc_var rfl (qc_pur (qt_tot (eI a0.1) rfl (qc_cons (qc_op (qc_var rfl (qc_pur (qt_tot (eI a0.2.1) rfl (qc_nil ⟨rfl, qt_par (t := t_holds a0 a0.1 a0.2.1) (fun r => Ans.ret (eB r)) (fun _ h => tt_holds h) fun r4 => ⟨_, rfl, (qc_cons (qc_pur (qc_nil ⟨rfl, qt_par (t := t_law_same ((eB r4)) ((eB true))) (fun r => Ans.ret (eB r)) (fun _ h => tt_law_same h) fun r5 => ⟨_, rfl, ⟨_, rfl, ⟨_, _, _, (fun b8 => b8), (fun b8 => [.dat ((e4 eI eI eI eI) a0), .dat (eI x0), .dat (eI y0), .dat (eB due1)]), true, rfl, ⟨rfl, rfl⟩, (qc_not (qc_B (qc_fn (qc_cons (qc_fn (qc_cons (qc_var rfl (qc_cons (qc_op (qc_op (qc_var rfl (qc_pur (qt_tot (eI a0.2.2.1) rfl (qc_pur (qt_tot (eI ((a0.2.2.1 - (1 : Int)))) rfl (qc_cons (qc_op (qc_op (qc_var rfl (qc_pur (qt_tot (eI a0.2.2.2) rfl (qc_pur (qt_tot (eI ((a0.2.2.2 - (1 : Int)))) rfl (qc_nil ⟨rfl, qt_par (t := t_holds a0 ((a0.2.2.1 - (1 : Int))) ((a0.2.2.2 - (1 : Int)))) (fun r => Ans.ret (eB r)) (fun _ h => tt_holds h) fun r6 => ⟨_, rfl, (qc_cons (qc_pur (qc_nil ⟨rfl, qt_par (t := t_law_same ((eB r6)) ((eB true))) (fun r => Ans.ret (eB r)) (fun _ h => tt_law_same h) fun r7 => ⟨_, rfl, ⟨_, rfl, ⟨_, rfl, rfl, rfl⟩⟩⟩⟩)))⟩⟩)))))))))))))))))))))))), fun b8 => ⟨_, _, rfl, (qs_end (qs_ret (qc_pur (fin (nx_rt ⟨_, rfl⟩))))), (qs_skip (qs_forS (qc_bnd (qc_tup (qc_cons (qc_tup (qc_cons (qc_op (qc_op (qc_var rfl (qc_pur (qt_tot (eI a0.1) rfl (qc_pur (qt_tot (eI ((a0.1 - (1 : Int)))) rfl (qc_cons (qc_op (qc_var rfl (qc_pur (qt_tot (eI a0.2.1) rfl (qc_nil ⟨(Nat.le_of_ble_eq_true rfl), (qc_cons (qc_tup (qc_cons (qc_op (qc_var rfl (qc_pur (qt_tot (eI a0.1) rfl (qc_cons (qc_op (qc_op (qc_var rfl (qc_pur (qt_tot (eI a0.2.1) rfl (qc_pur (qt_tot (eI ((a0.2.1 - (1 : Int)))) rfl (qc_nil ⟨(Nat.le_of_ble_eq_true rfl), (qc_cons (qc_tup (qc_cons (qc_op (qc_var rfl (qc_pur (qt_tot (eI a0.2.2.1) rfl (qc_cons (qc_op (qc_op (qc_var rfl (qc_pur (qt_tot (eI a0.2.2.2) rfl (qc_pur (qt_tot (eI ((a0.2.2.2 - (1 : Int)))) rfl (qc_nil ⟨(Nat.le_of_ble_eq_true rfl), (qc_cons (qc_tup (qc_cons (qc_op (qc_op (qc_var rfl (qc_pur (qt_tot (eI a0.2.2.1) rfl (qc_pur (qt_tot (eI ((a0.2.2.1 - (1 : Int)))) rfl (qc_cons (qc_op (qc_var rfl (qc_pur (qt_tot (eI a0.2.2.2) rfl (qc_nil ⟨(Nat.le_of_ble_eq_true rfl), (qc_cons (qc_tup (qc_cons (qc_op (qc_var rfl (qc_pur (qt_tot (eI a0.2.2.1) rfl (qc_cons (qc_op (qc_var rfl (qc_pur (qt_tot (eI a0.2.2.2) rfl (qc_nil ⟨(Nat.le_of_ble_eq_true rfl), (qc_nil ⟨(Nat.le_of_ble_eq_true rfl), (qc_lft (qt_tot _ rfl ⟨_, _, [((a0.1 - (1 : Int)), a0.2.1), (a0.1, (a0.2.1 - (1 : Int))), (a0.2.2.1, (a0.2.2.2 - (1 : Int))), ((a0.2.2.1 - (1 : Int)), a0.2.2.2), (a0.2.2.1, a0.2.2.2)], (e2 eI eI), (x0, y0), (fun s9 : (Int × Int) => [.dat ((e4 eI eI eI eI) a0), .dat (eI s9.1), .dat (eI s9.2), .dat (eB due1)]), (u_law_inside_1 a0), _, rfl, rfl, rfl, (fun a10 s9 => ⟨_, rfl, by unfold u_law_inside_1; exact qs_fr (ε' := [.dat ((e4 eI eI eI eI) a0), .dat (eI a10.1), .dat (eI a10.2), .dat (eB due1)]) rfl (qs_tidyL (is := []) (js := []) (qs_last (qs_if (qc_not (qc_B (qc_fn (qc_cons (qc_fn (qc_cons (qc_var rfl (qc_cons (qc_var rfl (qc_cons (qc_var rfl (qc_nil ⟨rfl, qt_par (t := t_holds a0 a10.1 a10.2) (fun r => Ans.ret (eB r)) (fun _ h => tt_holds h) fun r11 => ⟨_, rfl, (qc_cons (qc_pur (qc_nil ⟨rfl, qt_par (t := t_law_same ((eB r11)) ((eB false))) (fun r => Ans.ret (eB r)) (fun _ h => tt_law_same h) fun r12 => ⟨_, rfl, ⟨_, rfl, ⟨_, _, rfl, (qs_end (qs_ret (qc_pur (fin (nx_rt (no_rt ⟨_, rfl⟩)))))), (qs_skip (qs_nil (fin ⟨_, .inl rfl, rfl⟩)))⟩⟩⟩⟩)))⟩⟩)))))))))))))))⟩), fun s9 => (qs_ret (qc_pur (fin ⟨_, rfl⟩)))⟩))⟩)⟩)))))))))))))⟩))))))))))))))))⟩))))))))))))))))⟩))))))))))))))))⟩))))))))))))))))))))⟩⟩⟩⟩⟩)))⟩⟩)))))))))))))))))))))⟩⟩⟩⟩)))⟩⟩))))))))))))))⟩)))))))))
theorem tt_law_inside {a0 : (Int × Int × Int × Int)} {x0 : Int} {y0 : Int} {r : Bool} (h : t_law_inside a0 x0 y0 = some r) : m_law_inside [(e4 eI eI eI eI) a0, eI x0, eI y0] = some (.ret (eB r)) := run_P (ε := [.dat ((e4 eI eI eI eI) a0), .dat (eI x0), .dat (eI y0), .un]) rfl (tq_law_inside a0 x0 y0) h
def g_law_cuts : MoS := (mSeq (mSet 4 (mFn 2 m_law_block (mCons (mVar 0) (mCons (mVar 1) (pur [])))))
  (mSeq (mSet 5 (mFn 3 m_cut (mCons (mVar 4) (mCons (mVar 1) (mCons (mVar 2) (pur []))))))
  (mSeq (mIfS (mOr (mNot (mB (mFn 2 m_law_same (mCons (mVar 5) (mCons (mFn 2 m_law_block (mCons (mVar 0) (mCons (mVar 2) (pur [])))) (pur [])))))) (mNot (mB (mFn 2 m_law_same (mCons (mFn 3 m_cut (mCons (mVar 4) (mCons (mVar 1) (mCons (mVar 1) (pur []))))) (mCons (mVar 4) (pur []))))))) (mRet (pur (.bl false))) mNil)
  (mSeq (mSet 6 (mFn 2 m_law_block (mCons (mVar 0) (mCons (mVar 3) (pur [])))))
  (mRet (mAndV (mFn 2 m_law_same (mCons (mFn 3 m_cut (mCons (mVar 5) (mCons (mVar 2) (mCons (mVar 3) (pur []))))) (mCons (mVar 6) (pur [])))) (mFn 2 m_law_same (mCons (mFn 3 m_cut (mCons (mVar 4) (mCons (mVar 1) (mCons (mVar 3) (pur []))))) (mCons (mVar 6) (pur []))))))))))
def m_law_cuts : List D → Option Ans := runP 7 g_law_cuts
theorem ok_law_cuts (T : Txt P w K mg) : FnOk P w K mg base (CXX P w) 6 T.f_law_cuts T.d_law_cuts ["things", "rect", "part", "inner"] (SpP K 4 m_law_cuts) := by
  exact fn_P (g := g_law_cuts) T.F_law_cuts sc_law_cuts (fun cdv A outer s H E C hA hr tk => (ss_cons (st_set (fun _ p => ps_set (i := 4) sc_law_cuts.nd rfl (by first | exact Or.inl rfl | exact Or.inr rfl) p) (cl_fn (ok_law_block T) tk (hr.mono (by decide)) (by rfl) T.m_law_block T.F_law_block.kp T.b_law_block (ea_cons (ev_var 0 (pv 0)) (ea_cons (ev_var 1 (pv 1)) ea_nil))))
      (ss_cons (st_set (fun _ p => ps_set (i := 5) sc_law_cuts.nd rfl (by first | exact Or.inl rfl | exact Or.inr rfl) p) (cl_fn (ok_cut T) tk (hr.mono (by decide)) (by rfl) T.m_cut T.F_cut.kp T.b_cut (ea_cons (ev_var 4 (pv 4)) (ea_cons (ev_var 1 (pv 1)) (ea_cons (ev_var 2 (pv 2)) ea_nil)))))
      (ss_cons (st_if (te_w (tw_or (te_not (te_val (cl_fn (ok_law_same T) tk hr (by rfl) T.m_law_same T.F_law_same.kp T.b_law_same (ea_cons (ev_var 5 (pv 5)) (ea_cons (cl_fn (ok_law_block T) tk (hr.mono (by decide)) (by rfl) T.m_law_block T.F_law_block.kp T.b_law_block (ea_cons (ev_var 0 (pv 0)) (ea_cons (ev_var 2 (pv 2)) ea_nil))) ea_nil))))) (tw_or1 (te_not (te_val (cl_fn (ok_law_same T) tk hr (by rfl) T.m_law_same T.F_law_same.kp T.b_law_same (ea_cons (cl_fn (ok_cut T) tk (hr.mono (by decide)) (by rfl) T.m_cut T.F_cut.kp T.b_cut (ea_cons (ev_var 4 (pv 4)) (ea_cons (ev_var 1 (pv 1)) (ea_cons (ev_var 1 (pv 1)) ea_nil)))) (ea_cons (ev_var 4 (pv 4)) ea_nil)))))))) (ss_one (st_ret ev_bl)) ss_nil)
      (ss_cons (st_set (fun _ p => ps_set (i := 6) sc_law_cuts.nd rfl (by first | exact Or.inl rfl | exact Or.inr rfl) p) (cl_fn (ok_law_block T) tk (hr.mono (by decide)) (by rfl) T.m_law_block T.F_law_block.kp T.b_law_block (ea_cons (ev_var 0 (pv 0)) (ea_cons (ev_var 3 (pv 3)) ea_nil))))
      (ss_one (st_ret (ev_and (cl_fn (ok_law_same T) tk hr (by rfl) T.m_law_same T.F_law_same.kp T.b_law_same (ea_cons (cl_fn (ok_cut T) tk (hr.mono (by decide)) (by rfl) T.m_cut T.F_cut.kp T.b_cut (ea_cons (ev_var 5 (pv 5)) (ea_cons (ev_var 2 (pv 2)) (ea_cons (ev_var 3 (pv 3)) ea_nil)))) (ea_cons (ev_var 6 (pv 6)) ea_nil))) (ev_one (cl_fn (ok_law_same T) tk hr (by rfl) T.m_law_same T.F_law_same.kp T.b_law_same (ea_cons (cl_fn (ok_cut T) tk (hr.mono (by decide)) (by rfl) T.m_cut T.F_cut.kp T.b_cut (ea_cons (ev_var 4 (pv 4)) (ea_cons (ev_var 1 (pv 1)) (ea_cons (ev_var 3 (pv 3)) ea_nil)))) (ea_cons (ev_var 6 (pv 6)) ea_nil)))))))))))) (fun _ _ _ h => h)
@[irreducible] noncomputable def t_law_cuts (things0 : (List ((Int × Int) × D))) (rect0 : (Int × Int × Int × Int)) (part0 : (Int × Int × Int × Int)) (inner0 : (Int × Int × Int × Int)) : Option Bool :=
(t_law_block things0 rect0).bind fun r1 =>
(t_cut r1 rect0 part0).bind fun r2 =>
(t_law_block things0 part0).bind fun r3 =>
(t_law_same (((eT (eT eD)) r2)) (((eT (eT eD)) r3))).bind fun r4 =>
(if (!r4) = true then some true else (t_cut r1 rect0 rect0).bind fun r5 =>
(t_law_same (((eT (eT eD)) r5)) (((eT (eT eD)) r1))).bind fun r6 =>
(some ((!r6)))).bind fun b7 =>
if b7 = true then
some false
else
(t_law_block things0 inner0).bind fun r8 =>
(t_cut r2 part0 inner0).bind fun r9 =>
(t_law_same (((eT (eT eD)) r9)) (((eT (eT eD)) r8))).bind fun r10 =>
(if r10 = true then (t_cut r1 rect0 inner0).bind fun r11 =>
(t_law_same (((eT (eT eD)) r11)) (((eT (eT eD)) r8))).bind fun r12 =>
(some r12) else some false).bind fun b13 =>
some b13
theorem tq_law_cuts (things0 : (List ((Int × Int) × D))) (rect0 : (Int × Int × Int × Int)) (part0 : (Int × Int × Int × Int)) (inner0 : (Int × Int × Int × Int)) : QS (RP eB) g_law_cuts [.dat ((eDt eD) things0), .dat ((e4 eI eI eI eI) rect0), .dat ((e4 eI eI eI eI) part0), .dat ((e4 eI eI eI eI) inner0), .un, .un, .un] (t_law_cuts things0 rect0 part0 inner0) := by unfold t_law_cuts; exact (qs_set (qc_fn (qc_cons (qc_var rfl (qc_cons (qc_var rfl (qc_nil ⟨rfl, qt_par (t := t_law_block things0 rect0) (fun r => Ans.ret ((eT (eT eD)) r)) (fun _ h => tt_law_block h) fun r1 => ⟨_, rfl, (qs_fr (ε' := [.dat ((eDt eD) things0), .dat ((e4 eI eI eI eI) rect0), .dat ((e4 eI eI eI eI) part0), .dat ((e4 eI eI eI eI) inner0), .dat ((eT (eT eD)) r1), .un, .un]) rfl (qs_set (qc_fn (qc_cons (qc_var rfl (qc_cons (qc_var rfl (qc_cons (qc_var rfl (qc_nil ⟨rfl, qt_par (t := t_cut r1 rect0 part0) (fun r => Ans.ret ((eT (eT eD)) r)) (fun _ h => tt_cut h) fun r2 => ⟨_, rfl, (qs_fr (ε' := [.dat ((eDt eD) things0), .dat ((e4 eI eI eI eI) rect0), .dat ((e4 eI eI eI eI) part0), .dat ((e4 eI eI eI eI) inner0), .dat ((eT (eT eD)) r1), .dat ((eT (eT eD)) r2), .un]) rfl (qs_if (qc_orP (qc_not (qc_B (qc_fn (qc_cons (qc_var rfl (qc_cons (qc_fn (qc_cons (qc_var rfl (qc_cons (qc_var rfl (qc_nil ⟨rfl, qt_par (t := t_law_block things0 part0) (fun r => Ans.ret ((eT (eT eD)) r)) (fun _ h => tt_law_block h) fun r3 => ⟨_, rfl, (qc_nil ⟨rfl, qt_par (t := t_law_same (((eT (eT eD)) r2)) (((eT (eT eD)) r3))) (fun r => Ans.ret (eB r)) (fun _ h => tt_law_same h) fun r4 => ⟨_, rfl, ⟨_, rfl, ⟨_, _, _, (fun b7 => b7), (fun b7 => [.dat ((eDt eD) things0), .dat ((e4 eI eI eI eI) rect0), .dat ((e4 eI eI eI eI) part0), .dat ((e4 eI eI eI eI) inner0), .dat ((eT (eT eD)) r1), .dat ((eT (eT eD)) r2), .un]), true, rfl, ⟨rfl, rfl⟩, (qc_not (qc_B (qc_fn (qc_cons (qc_fn (qc_cons (qc_var rfl (qc_cons (qc_var rfl (qc_cons (qc_var rfl (qc_nil ⟨rfl, qt_par (t := t_cut r1 rect0 rect0) (fun r => Ans.ret ((eT (eT eD)) r)) (fun _ h => tt_cut h) fun r5 => ⟨_, rfl, (qc_cons (qc_var rfl (qc_nil ⟨rfl, qt_par (t := t_law_same (((eT (eT eD)) r5)) (((eT (eT eD)) r1))) (fun r => Ans.ret (eB r)) (fun _ h => tt_law_same h) fun r6 => ⟨_, rfl, ⟨_, rfl, ⟨_, rfl, rfl, rfl⟩⟩⟩⟩)))⟩⟩)))))))))))), fun b7 => ⟨_, _, rfl, (qs_end (qs_ret (qc_pur (fin (nx_rt ⟨_, rfl⟩))))), (qs_skip (qs_set (qc_fn (qc_cons (qc_var rfl (qc_cons (qc_var rfl (qc_nil ⟨rfl, qt_par (t := t_law_block things0 inner0) (fun r => Ans.ret ((eT (eT eD)) r)) (fun _ h => tt_law_block h) fun r8 => ⟨_, rfl, (qs_fr (ε' := [.dat ((eDt eD) things0), .dat ((e4 eI eI eI eI) rect0), .dat ((e4 eI eI eI eI) part0), .dat ((e4 eI eI eI eI) inner0), .dat ((eT (eT eD)) r1), .dat ((eT (eT eD)) r2), .dat ((eT (eT eD)) r8)]) rfl (qs_ret (qc_andVP (qc_fn (qc_cons (qc_fn (qc_cons (qc_var rfl (qc_cons (qc_var rfl (qc_cons (qc_var rfl (qc_nil ⟨rfl, qt_par (t := t_cut r2 part0 inner0) (fun r => Ans.ret ((eT (eT eD)) r)) (fun _ h => tt_cut h) fun r9 => ⟨_, rfl, (qc_cons (qc_var rfl (qc_nil ⟨rfl, qt_par (t := t_law_same (((eT (eT eD)) r9)) (((eT (eT eD)) r8))) (fun r => Ans.ret (eB r)) (fun _ h => tt_law_same h) fun r10 => ⟨_, rfl, ⟨_, _, _, _, (fun b13 => b13), (fun b13 => [.dat ((eDt eD) things0), .dat ((e4 eI eI eI eI) rect0), .dat ((e4 eI eI eI eI) part0), .dat ((e4 eI eI eI eI) inner0), .dat ((eT (eT eD)) r1), .dat ((eT (eT eD)) r2), .dat ((eT (eT eD)) r8)]), false, rfl, rfl, ⟨rfl, rfl⟩, (qc_fn (qc_cons (qc_fn (qc_cons (qc_var rfl (qc_cons (qc_var rfl (qc_cons (qc_var rfl (qc_nil ⟨rfl, qt_par (t := t_cut r1 rect0 inner0) (fun r => Ans.ret ((eT (eT eD)) r)) (fun _ h => tt_cut h) fun r11 => ⟨_, rfl, (qc_cons (qc_var rfl (qc_nil ⟨rfl, qt_par (t := t_law_same (((eT (eT eD)) r11)) (((eT (eT eD)) r8))) (fun r => Ans.ret (eB r)) (fun _ h => tt_law_same h) fun r12 => ⟨_, rfl, ⟨_, rfl, rfl, rfl⟩⟩⟩)))⟩⟩)))))))))), fun b13 => (fin ⟨_, rfl⟩)⟩⟩⟩)))⟩⟩)))))))))))))⟩⟩))))))))⟩⟩⟩⟩⟩)⟩⟩)))))))))))))))⟩⟩))))))))))⟩⟩)))))))
theorem tt_law_cuts {things0 : (List ((Int × Int) × D))} {rect0 : (Int × Int × Int × Int)} {part0 : (Int × Int × Int × Int)} {inner0 : (Int × Int × Int × Int)} {r : Bool} (h : t_law_cuts things0 rect0 part0 inner0 = some r) : m_law_cuts [(eDt eD) things0, (e4 eI eI eI eI) rect0, (e4 eI eI eI eI) part0, (e4 eI eI eI eI) inner0] = some (.ret (eB r)) := run_P (ε := [.dat ((eDt eD) things0), .dat ((e4 eI eI eI eI) rect0), .dat ((e4 eI eI eI eI) part0), .dat ((e4 eI eI eI eI) inner0), .un, .un, .un]) rfl (tq_law_cuts things0 rect0 part0 inner0) h
def bd_law_1 : Mo D := (mCall (gOne gAbs) (mCons (mVar 16) (pur [])))
def bd_law_2 : Mo (List D) := (mLc [16] (bnd (mSl gSlL (mVar 5) (pur none) (bnd (pur (.int 4)) fun d => lft ((asI d).map some))) fun d => lft (lstOf d)) (gdName 16) (pur true) bd_law_1)
def bd_law_3 : Mo D := (mTup (mCons (mOp gIx (mVar 7) (mOp gMul (pur (.int 2)) (mVar 17))) (mCons (mOp gIx (mVar 7) (mOp gAdd (mOp gMul (pur (.int 2)) (mVar 17)) (pur (.int 1)))) (pur []))))
def bd_law_4 : Mo (List D) := (mLc [17] (bnd (mCons (mCall (gTwo gMin2) (mCons (pur (.int 5)) (mCons (mOp gMod (mCall (gOne gInt) (mCons (mFn 2 m_law_cell (mCons (mVar 0) (mCons (pur (.int 2)) (pur [])))) (pur []))) (pur (.int 7))) (pur [])))) (pur [])) fun ds => lft (rng1 ds)) (gdName 17) (pur true) bd_law_3)
def bd_law_5 : Mo D := (mTup (mCons (mOp gIx (mVar 18) (pur (.int 0))) (mCons (mOp gIx (mVar 18) (pur (.int 1))) (pur []))))
def bd_law_6 : Mo (List D) := (mLc [18] (bnd (mFz (mFnO 1 m_law_comb (mCons (mVar 7) (pur [])))) fun d => lft (lstOf d)) (gdName 18) (pur true) bd_law_5)
def bd_law_7 : Mo D := (mOp gCatT (mItemN 9 (mVar 17)) (mOp gIx (mTup (mCons (mTup (pur [])) (mCons (mTup (mCons (pur (.int 7)) (pur []))) (mCons (mTup (mCons (pur (.int 0)) (mCons (mTup (mCons (pur (.int 0)) (mCons (pur (.int 0)) (mCons (pur (.int 0)) (mCons (pur (.int 9)) (pur [])))))) (pur [])))) (pur []))))) (mOp gMod (mVar 17) (pur (.int 3)))))
def bd_law_8 : Mo (List D) := (mLc [17] (bnd (mCons (mLenN 9) (pur [])) fun ds => lft (rng1 ds)) (gdName 17) (pur true) bd_law_7)
def g_law : MoS := (mSeq (mSet 1 (mOp gGt (mOp gMod (mCall (gOne gInt) (mCons (mOp gDiv (mFn 2 m_law_cell (mCons (mVar 0) (mCons (pur (.int 0)) (pur [])))) (pur (.int 9))) (pur []))) (pur (.int 3))) (pur (.int 0))))
  (mSeq (mSetO 2 (mFnO 2 m_law_rects (mCons (mFn 5 m_law_numbers (mCons (mVar 0) (mCons (pur (.int 4)) (mCons (pur (.int 8)) (mCons (pur (.int 0)) (mCons (mVar 1) (pur []))))))) (mCons (pur (.int 2)) (pur [])))))
  (mSeq (mSet 3 (mItemN 2 (pur (.int 0))))
  (mSeq (mSet 4 (mFn 3 m_law_second (mCons (mVar 3) (mCons (mItemN 2 (pur (.int 1))) (mCons (mOp gMod (mCall (gOne gInt) (mCons (mFn 2 m_law_cell (mCons (mVar 0) (mCons (pur (.int 0)) (pur [])))) (pur []))) (pur (.int 9))) (pur []))))))
  (mSeq (mSet 5 (mFn 5 m_law_numbers (mCons (mVar 0) (mCons (pur (.int 12)) (mCons (pur (.int 6)) (mCons (pur (.int 1)) (mCons (mVar 1) (pur []))))))))
  (mSeq (mSetO 6 bd_law_2)
  (mSeq (mSet 7 (mFn 5 m_law_numbers (mCons (mVar 0) (mCons (pur (.int 18)) (mCons (pur (.int 20)) (mCons (pur (.int 2)) (mCons (mVar 1) (pur []))))))))
  (mSeq (mSet 8 (mIf (mB (mOp gLt (mOp gMod (mCall (gOne gInt) (mCons (mFn 2 m_law_cell (mCons (mVar 0) (mCons (pur (.int 1)) (pur [])))) (pur []))) (pur (.int 7))) (pur (.int 6)))) (mFz (mFnO 2 m_law_rects (mCons (mVar 7) (mCons (mOp gMod (mCall (gOne gInt) (mCons (mFn 2 m_law_cell (mCons (mVar 0) (mCons (pur (.int 1)) (pur [])))) (pur []))) (pur (.int 7))) (pur []))))) (mFz (mFnO 1 m_law_comb (mCons (mVar 7) (pur []))))))
  (mSeq (mSet 7 (mFn 5 m_law_numbers (mCons (mVar 0) (mCons (pur (.int 38)) (mCons (pur (.int 10)) (mCons (pur (.int 3)) (mCons (mVar 1) (pur []))))))))
  (mSeq (mSetO 9 bd_law_4)
  (mSeq (mPost [] [] (mIfS (mB (mOp gEqS (mOp gMod (mCall (gOne gInt) (mCons (mFn 2 m_law_cell (mCons (mVar 0) (mCons (pur (.int 2)) (pur [])))) (pur []))) (pur (.int 7))) (pur (.int 6)))) (mSetO 9 bd_law_6) mNil))
  (mSeq (mSetO 10 bd_law_8)
  (mSeq (mSet 11 (mFn 5 m_law_numbers (mCons (mVar 0) (mCons (pur (.int 48)) (mCons (pur (.int 10)) (mCons (pur (.int 4)) (mCons (pur (.bl false)) (pur []))))))))
  (mSeq (mSet 12 (mIf (mB (mOp gNeS (mOp gMod (mCall (gOne gInt) (mCons (mFn 2 m_law_cell (mCons (mVar 0) (mCons (pur (.int 3)) (pur [])))) (pur []))) (pur (.int 8))) (pur (.int 1)))) (mTup (mCons (pur (.int 9)) (mCons (pur (.int 7)) (pur [])))) (mTup (mCons (pur (.int 70)) (mCons (pur (.int 3)) (pur []))))))
  (mSeq (mSet 13 (mTup (mCons (mOp gIx (mVar 3) (pur (.int 0))) (mCons (mOp gIx (mVar 3) (pur (.int 1))) (mCons (mOp gAdd (mOp gAdd (mOp gIx (mVar 3) (pur (.int 0))) (pur (.int 1))) (mOp gMod (mCall (gOne gInt) (mCons (mOp gIx (mVar 11) (pur (.int 0))) (pur []))) (mOp gIx (mVar 12) (pur (.int 0))))) (mCons (mOp gAdd (mOp gAdd (mOp gIx (mVar 3) (pur (.int 1))) (pur (.int 1))) (mOp gMod (mCall (gOne gInt) (mCons (mOp gIx (mVar 11) (pur (.int 1))) (pur []))) (mOp gIx (mVar 12) (pur (.int 1))))) (pur [])))))))
  (mSeq (mSet 14 (mFn 2 m_law_part (mCons (mVar 13) (mCons (mSl gSlL (mVar 11) (bnd (pur (.int 2)) fun d => lft ((asI d).map some)) (bnd (pur (.int 6)) fun d => lft ((asI d).map some))) (pur [])))))
  (mSeq (mSet 15 (mFn 2 m_law_things (mCons (mFn 3 m_law_draws (mCons (mVar 0) (mCons (pur (.int 3)) (mCons (pur (.int 63)) (pur []))))) (mCons (mVar 13) (pur [])))))
  (mSeq (mPre [6, 10] (mIfS (mOr (mNot (mB (mFn 3 m_law_pairs (mCons (mVar 3) (mCons (mVar 4) (mCons (mVar 6) (pur []))))))) (mOr (mNot (mB (mFn 2 m_law_arounds (mCons (mVar 8) (mCons (mVar 10) (pur [])))))) (mNot (mB (mFn 3 m_law_inside (mCons (mVar 3) (mCons (mOp gIx (mVar 5) (pur (.int 4))) (mCons (mOp gIx (mVar 5) (pur (.int 5))) (pur []))))))))) (mRet (pur (.bl false))) mNil))
  (mRet (mAndV (mFn 3 m_law_inside (mCons (mVar 4) (mCons (mOp gIx (mVar 5) (pur (.int 4))) (mCons (mOp gIx (mVar 5) (pur (.int 5))) (pur []))))) (mFn 4 m_law_cuts (mCons (mVar 15) (mCons (mVar 13) (mCons (mVar 14) (mCons (mFn 2 m_law_part (mCons (mVar 14) (mCons (mSl gSlL (mVar 11) (bnd (pur (.int 6)) fun d => lft ((asI d).map some)) (pur none)) (pur [])))) (pur []))))))))))))))))))))))))))
@[irreducible] noncomputable def u_law_1  : Int → Option Int := fun (a10 : Int) =>
some ((absT a10))
@[irreducible] noncomputable def u_law_2 (r20 : (List Int)) : Int → Option (Int × Int) := fun (a23 : Int) =>
(mulG ((2 : Int)) a23).bind fun m24 =>
(atI r20 m24).bind fun it25 =>
(mulG ((2 : Int)) a23).bind fun m26 =>
(atI r20 ((m26 + (1 : Int)))).bind fun it27 =>
some ((it25, it27))
@[irreducible] noncomputable def u_law_3  : (Int × Int × Int × Int) → Option (Int × Int) := fun (a32 : (Int × Int × Int × Int)) =>
some ((a32.1, a32.2.1))
@[irreducible] noncomputable def u_law_4 (s29 : ((List (Int × Int)))) : Int → Option Pl := fun (a35 : Int) =>
(atI s29 a35).bind fun it36 =>
(atI ([[], [(eI ((7 : Int)))], [(eI ((0 : Int))), ((e4 eI eI eI eI) (((0 : Int), (0 : Int), (0 : Int), (9 : Int))))]]) ((a35 % (3 : Int)))).bind fun it37 =>
(plG it36 it37).bind fun l38 =>
some l38
@[irreducible] noncomputable def t_law (script0 : (List Int)) : Option Bool :=
(t_law_cell script0 ((0 : Int))).bind fun r1 =>
letO ((decide ((0 : Int) < ((r1 / (9 : Int)) % (3 : Int)))) : Bool) fun small2 =>
(t_law_numbers script0 ((4 : Int)) ((8 : Int)) ((0 : Int)) small2).bind fun r3 =>
(t_law_rects r3 ((2 : Int))).bind fun r4 =>
(atI r4 ((0 : Int))).bind fun it5 =>
(atI r4 ((1 : Int))).bind fun it6 =>
(t_law_cell script0 ((0 : Int))).bind fun r7 =>
(t_law_second it5 it6 ((r7 % (9 : Int)))).bind fun r8 =>
(t_law_numbers script0 ((12 : Int)) ((6 : Int)) ((1 : Int)) small2).bind fun r9 =>
(capG ((cutL r9 none (some ((4 : Int))))).length).bind fun _ => (mapO u_law_1 ((cutL r9 none (some ((4 : Int)))))).bind fun cs11 =>
(t_law_numbers script0 ((18 : Int)) ((20 : Int)) ((2 : Int)) small2).bind fun r12 =>
(t_law_cell script0 ((1 : Int))).bind fun r13 =>
(if (decide ((r13 % (7 : Int)) < (6 : Int))) = true then (t_law_cell script0 ((1 : Int))).bind fun r16 =>
(t_law_rects r12 ((r16 % (7 : Int)))).bind fun r17 =>
(some r17) else (t_law_comb r12).bind fun r18 =>
(some r18)).bind fun y19 =>
(t_law_numbers script0 ((38 : Int)) ((10 : Int)) ((3 : Int)) small2).bind fun r20 =>
(t_law_cell script0 ((2 : Int))).bind fun r21 =>
(rng1G ((min2T ((5 : Int)) ((r21 % (7 : Int)))))).bind fun rg22 =>
(capG rg22.length).bind fun _ => (mapO (u_law_2 r20) rg22).bind fun cs28 =>
((t_law_cell script0 ((2 : Int))).bind fun r30 =>
if (decide ((r30 % (7 : Int)) = (6 : Int))) = true then
(t_law_comb r20).bind fun r31 =>
(capG r31.length).bind fun _ => (mapO u_law_3 r31).bind fun cs33 =>
some cs33
else
some cs28).bind fun s29 =>
(rng1G ((s29.length : Int))).bind fun rg34 =>
(capG rg34.length).bind fun _ => (mapO (u_law_4 s29) rg34).bind fun cs39 =>
(t_law_numbers script0 ((48 : Int)) ((10 : Int)) ((4 : Int)) false).bind fun r40 =>
(t_law_cell script0 ((3 : Int))).bind fun r41 =>
letO ((if (!(decide ((r41 % (8 : Int)) = (1 : Int)))) = true then ((9 : Int), (7 : Int)) else ((70 : Int), (3 : Int))) : (Int × Int)) fun most42 =>
(atI r40 ((0 : Int))).bind fun it43 =>
(modG it43 most42.1).bind fun r44 =>
(atI r40 ((1 : Int))).bind fun it45 =>
(modG it45 most42.2).bind fun r46 =>
letO ((it5.1, it5.2.1, ((it5.1 + (1 : Int)) + r44), ((it5.2.1 + (1 : Int)) + r46)) : (Int × Int × Int × Int)) fun rect47 =>
(t_law_part rect47 ((cutL r40 (some ((2 : Int))) (some ((6 : Int)))))).bind fun r48 =>
(t_law_draws script0 ((3 : Int)) ((63 : Int))).bind fun r49 =>
(t_law_things r49 rect47).bind fun r50 =>
(t_law_pairs it5 r8 cs11).bind fun r51 =>
(if (!r51) = true then some true else (t_law_arounds y19 cs39).bind fun r52 =>
(if (!r52) = true then some true else (atI r9 ((4 : Int))).bind fun it53 =>
(atI r9 ((5 : Int))).bind fun it54 =>
(t_law_inside it5 it53 it54).bind fun r55 =>
(some ((!r55)))).bind fun b56 =>
(some b56)).bind fun b57 =>
if b57 = true then
some false
else
(atI r9 ((4 : Int))).bind fun it58 =>
(atI r9 ((5 : Int))).bind fun it59 =>
(t_law_inside r8 it58 it59).bind fun r60 =>
(if r60 = true then (t_law_part r48 ((cutL r40 (some ((6 : Int))) none))).bind fun r61 =>
(t_law_cuts r50 rect47 r48 r61).bind fun r62 =>
(some r62) else some false).bind fun b63 =>
some b63
theorem tq_law (script0 : (List Int)) : QS (RP eB) g_law [.dat ((eR eI) script0), .un, .un, .un, .un, .un, .un, .un, .un, .un, .un, .un, .un, .un, .un, .un, .un, .un, .un] (t_law script0) := by unfold t_law; exact (qs_set (qc_op (qc_op (qc_call (qc_cons (qc_op (qc_fn (qc_cons (qc_var rfl (qc_cons (qc_pur (qc_nil ⟨rfl, qt_par (t := t_law_cell script0 ((0 : Int))) (fun r => Ans.ret (eI r)) (fun _ h => tt_law_cell h) fun r1 => ⟨_, rfl, (qc_pur (qt_tot (eI ((r1 / (9 : Int)))) rfl (qc_nil (qt_tot (eI ((r1 / (9 : Int)))) rfl (qc_pur (qt_tot (eI (((r1 / (9 : Int)) % (3 : Int)))) rfl (qc_pur (qt_tot (eB ((decide ((0 : Int) < ((r1 / (9 : Int)) % (3 : Int)))))) rfl (qs_let (v := (decide ((0 : Int) < ((r1 / (9 : Int)) % (3 : Int))))) (fun small2 => [.dat ((eR eI) script0), .dat (eB small2), .un, .un, .un, .un, .un, .un, .un, .un, .un, .un, .un, .un, .un, .un, .un, .un, .un]) fun small2 => (qs_setO (qc_fnO (qc_cons (qc_fn (qc_cons (qc_var rfl (qc_cons (qc_pur (qc_cons (qc_pur (qc_cons (qc_pur (qc_cons (qc_var rfl (qc_nil ⟨rfl, qt_par (t := t_law_numbers script0 ((4 : Int)) ((8 : Int)) ((0 : Int)) small2) (fun r => Ans.ret ((eL eI) r)) (fun _ h => tt_law_numbers h) fun r3 => ⟨_, rfl, (qc_cons (qc_pur (qc_nil ⟨rfl, qt_par (t := t_law_rects r3 ((2 : Int))) (fun r => r.map (e4 eI eI eI eI)) (fun _ h => tt_law_rects h) fun r4 => (qs_fr (ε' := [.dat ((eR eI) script0), .dat (eB small2), .own (List.map (e4 eI eI eI eI) r4), .un, .un, .un, .un, .un, .un, .un, .un, .un, .un, .un, .un, .un, .un, .un, .un]) rfl (qs_set (qc_itemN rfl rfl (qc_pur ⟨_, _, _, rfl, rfl, rfl, (qt_par (t := atI r4 ((0 : Int))) (e4 eI eI eI eI) (fun _ h => ixN_ok h) fun it5 => (qs_fr (ε' := [.dat ((eR eI) script0), .dat (eB small2), .own (List.map (e4 eI eI eI eI) r4), .dat ((e4 eI eI eI eI) it5), .un, .un, .un, .un, .un, .un, .un, .un, .un, .un, .un, .un, .un, .un, .un]) rfl (qs_set (qc_fn (qc_cons (qc_var rfl (qc_cons (qc_itemN rfl rfl (qc_pur ⟨_, _, _, rfl, rfl, rfl, (qt_par (t := atI r4 ((1 : Int))) (e4 eI eI eI eI) (fun _ h => ixN_ok h) fun it6 => (qc_cons (qc_op (qc_call (qc_cons (qc_fn (qc_cons (qc_var rfl (qc_cons (qc_pur (qc_nil ⟨rfl, qt_par (t := t_law_cell script0 ((0 : Int))) (fun r => Ans.ret (eI r)) (fun _ h => tt_law_cell h) fun r7 => ⟨_, rfl, (qc_nil (qt_tot (eI r7) rfl (qc_pur (qt_tot (eI ((r7 % (9 : Int)))) rfl (qc_nil ⟨rfl, qt_par (t := t_law_second it5 it6 ((r7 % (9 : Int)))) (fun r => Ans.ret ((e4 eI eI eI eI) r)) (fun _ h => tt_law_second h) fun r8 => ⟨_, rfl, (qs_fr (ε' := [.dat ((eR eI) script0), .dat (eB small2), .own (List.map (e4 eI eI eI eI) r4), .dat ((e4 eI eI eI eI) it5), .dat ((e4 eI eI eI eI) r8), .un, .un, .un, .un, .un, .un, .un, .un, .un, .un, .un, .un, .un, .un]) rfl (qs_set (qc_fn (qc_cons (qc_var rfl (qc_cons (qc_pur (qc_cons (qc_pur (qc_cons (qc_pur (qc_cons (qc_var rfl (qc_nil ⟨rfl, qt_par (t := t_law_numbers script0 ((12 : Int)) ((6 : Int)) ((1 : Int)) small2) (fun r => Ans.ret ((eL eI) r)) (fun _ h => tt_law_numbers h) fun r9 => ⟨_, rfl, (qs_fr (ε' := [.dat ((eR eI) script0), .dat (eB small2), .own (List.map (e4 eI eI eI eI) r4), .dat ((e4 eI eI eI eI) it5), .dat ((e4 eI eI eI eI) r8), .dat ((eL eI) r9), .un, .un, .un, .un, .un, .un, .un, .un, .un, .un, .un, .un, .un]) rfl (qs_setO (qc_lcA (qc_bnd (qc_sl (qc_var rfl (qc_pur (qc_lo (qc_pur ⟨_, rfl, (qt_tot ((eL eI) ((cutL r9 none (some ((4 : Int)))))) (slL_eq (e := eI) r9 _ _) (qc_lft (qt_tot _ rfl ⟨_, _, (cutL r9 none (some ((4 : Int)))), eI, u_law_1, eI, _, rfl, rfl, rfl, rfl, (fun a10 => ⟨_, rfl, rfl, by unfold u_law_1; exact (qc_call (qc_cons (qc_var rfl (qc_nil (qt_tot (eI ((absT a10))) rfl ⟨_, rfl, rfl, rfl⟩)))))⟩), fun cs11 => (qs_fr (ε' := [.dat ((eR eI) script0), .dat (eB small2), .own (List.map (e4 eI eI eI eI) r4), .dat ((e4 eI eI eI eI) it5), .dat ((e4 eI eI eI eI) r8), .dat ((eL eI) r9), .own (List.map eI cs11), .un, .un, .un, .un, .un, .un, .un, .un, .un, .un, .un, .un]) rfl (qs_set (qc_fn (qc_cons (qc_var rfl (qc_cons (qc_pur (qc_cons (qc_pur (qc_cons (qc_pur (qc_cons (qc_var rfl (qc_nil ⟨rfl, qt_par (t := t_law_numbers script0 ((18 : Int)) ((20 : Int)) ((2 : Int)) small2) (fun r => Ans.ret ((eL eI) r)) (fun _ h => tt_law_numbers h) fun r12 => ⟨_, rfl, (qs_fr (ε' := [.dat ((eR eI) script0), .dat (eB small2), .own (List.map (e4 eI eI eI eI) r4), .dat ((e4 eI eI eI eI) it5), .dat ((e4 eI eI eI eI) r8), .dat ((eL eI) r9), .own (List.map eI cs11), .dat ((eL eI) r12), .un, .un, .un, .un, .un, .un, .un, .un, .un, .un, .un]) rfl (qs_set (qc_if (qc_B (qc_op (qc_op (qc_call (qc_cons (qc_fn (qc_cons (qc_var rfl (qc_cons (qc_pur (qc_nil ⟨rfl, qt_par (t := t_law_cell script0 ((1 : Int))) (fun r => Ans.ret (eI r)) (fun _ h => tt_law_cell h) fun r13 => ⟨_, rfl, (qc_nil (qt_tot (eI r13) rfl (qc_pur (qt_tot (eI ((r13 % (7 : Int)))) rfl (qc_pur (qt_tot (eB ((decide ((r13 % (7 : Int)) < (6 : Int))))) rfl ⟨_, rfl, ⟨_, _, _, _, (fun y19 => (eL (e4 eI eI eI eI)) y19), (fun y19 => [.dat ((eR eI) script0), .dat (eB small2), .own (List.map (e4 eI eI eI eI) r4), .dat ((e4 eI eI eI eI) it5), .dat ((e4 eI eI eI eI) r8), .dat ((eL eI) r9), .own (List.map eI cs11), .dat ((eL eI) r12), .un, .un, .un, .un, .un, .un, .un, .un, .un, .un, .un]), rfl, (qc_fz (qc_fnO (qc_cons (qc_var rfl (qc_cons (qc_op (qc_call (qc_cons (qc_fn (qc_cons (qc_var rfl (qc_cons (qc_pur (qc_nil ⟨rfl, qt_par (t := t_law_cell script0 ((1 : Int))) (fun r => Ans.ret (eI r)) (fun _ h => tt_law_cell h) fun r16 => ⟨_, rfl, (qc_nil (qt_tot (eI r16) rfl (qc_pur (qt_tot (eI ((r16 % (7 : Int)))) rfl (qc_nil ⟨rfl, qt_par (t := t_law_rects r12 ((r16 % (7 : Int)))) (fun r => r.map (e4 eI eI eI eI)) (fun _ h => tt_law_rects h) fun r17 => ⟨_, rfl, rfl, rfl⟩⟩)))))⟩⟩)))))))))))))), (qc_fz (qc_fnO (qc_cons (qc_var rfl (qc_nil ⟨rfl, qt_par (t := t_law_comb r12) (fun r => r.map (e4 eI eI eI eI)) (fun _ h => tt_law_comb h) fun r18 => ⟨_, rfl, rfl, rfl⟩⟩))))), fun y19 => (qs_fr (ε' := [.dat ((eR eI) script0), .dat (eB small2), .own (List.map (e4 eI eI eI eI) r4), .dat ((e4 eI eI eI eI) it5), .dat ((e4 eI eI eI eI) r8), .dat ((eL eI) r9), .own (List.map eI cs11), .dat ((eL eI) r12), .dat ((eL (e4 eI eI eI eI)) y19), .un, .un, .un, .un, .un, .un, .un, .un, .un, .un]) rfl (qs_set (qc_fn (qc_cons (qc_var rfl (qc_cons (qc_pur (qc_cons (qc_pur (qc_cons (qc_pur (qc_cons (qc_var rfl (qc_nil ⟨rfl, qt_par (t := t_law_numbers script0 ((38 : Int)) ((10 : Int)) ((3 : Int)) small2) (fun r => Ans.ret ((eL eI) r)) (fun _ h => tt_law_numbers h) fun r20 => ⟨_, rfl, (qs_fr (ε' := [.dat ((eR eI) script0), .dat (eB small2), .own (List.map (e4 eI eI eI eI) r4), .dat ((e4 eI eI eI eI) it5), .dat ((e4 eI eI eI eI) r8), .dat ((eL eI) r9), .own (List.map eI cs11), .dat ((eL eI) r20), .dat ((eL (e4 eI eI eI eI)) y19), .un, .un, .un, .un, .un, .un, .un, .un, .un, .un]) rfl (qs_setO (qc_lcA (qc_bnd (qc_cons (qc_call (qc_cons (qc_pur (qc_cons (qc_op (qc_call (qc_cons (qc_fn (qc_cons (qc_var rfl (qc_cons (qc_pur (qc_nil ⟨rfl, qt_par (t := t_law_cell script0 ((2 : Int))) (fun r => Ans.ret (eI r)) (fun _ h => tt_law_cell h) fun r21 => ⟨_, rfl, (qc_nil (qt_tot (eI r21) rfl (qc_pur (qt_tot (eI ((r21 % (7 : Int)))) rfl (qc_nil (qt_tot (eI ((min2T ((5 : Int)) ((r21 % (7 : Int)))))) rfl (qc_nil (qc_lft (qt_par (t := rng1G ((min2T ((5 : Int)) ((r21 % (7 : Int)))))) (fun xs => xs.map eI) (fun _ h => rng1_ok h) fun rg22 => ⟨_, _, rg22, eI, (u_law_2 r20), (e2 eI eI), _, rfl, rfl, rfl, rfl, (fun a23 => ⟨_, rfl, rfl, by unfold u_law_2; exact (qc_tup (qc_cons (qc_op (qc_var rfl (qc_op (qc_pur (qc_var rfl (qt_par (t := mulG ((2 : Int)) a23) eI (fun _ h => mul_ok h) fun m24 => (qt_par (t := atI r20 m24) eI (fun _ h => ixL_ok (e := eI) (xs := r20) h) fun it25 => (qc_cons (qc_op (qc_var rfl (qc_op (qc_op (qc_pur (qc_var rfl (qt_par (t := mulG ((2 : Int)) a23) eI (fun _ h => mul_ok h) fun m26 => (qc_pur (qt_tot (eI ((m26 + (1 : Int)))) rfl (qt_par (t := atI r20 ((m26 + (1 : Int)))) eI (fun _ h => ixL_ok (e := eI) (xs := r20) h) fun it27 => (qc_nil ⟨(Nat.le_of_ble_eq_true rfl), ⟨_, rfl, rfl, rfl⟩⟩)))))))))))))))))))))⟩), fun cs28 => (qs_fr (ε' := [.dat ((eR eI) script0), .dat (eB small2), .own (List.map (e4 eI eI eI eI) r4), .dat ((e4 eI eI eI eI) it5), .dat ((e4 eI eI eI eI) r8), .dat ((eL eI) r9), .own (List.map eI cs11), .dat ((eL eI) r20), .dat ((eL (e4 eI eI eI eI)) y19), .own (List.map (e2 eI eI) cs28), .un, .un, .un, .un, .un, .un, .un, .un, .un]) rfl (qs_post (is := []) (js := []) (fun s29 => [.dat ((eR eI) script0), .dat (eB small2), .own (List.map (e4 eI eI eI eI) r4), .dat ((e4 eI eI eI eI) it5), .dat ((e4 eI eI eI eI) r8), .dat ((eL eI) r9), .own (List.map eI cs11), .dat ((eL eI) r20), .dat ((eL (e4 eI eI eI eI)) y19), .own (List.map (e2 eI eI) s29), .un, .un, .un, .un, .un, .un, .un, .un, .un]) (qs_last (qs_if (qc_B (qc_op (qc_op (qc_call (qc_cons (qc_fn (qc_cons (qc_var rfl (qc_cons (qc_pur (qc_nil ⟨rfl, qt_par (t := t_law_cell script0 ((2 : Int))) (fun r => Ans.ret (eI r)) (fun _ h => tt_law_cell h) fun r30 => ⟨_, rfl, (qc_nil (qt_tot (eI r30) rfl (qc_pur (qt_tot (eI ((r30 % (7 : Int)))) rfl (qc_pur (qt_tot (eB ((decide ((r30 % (7 : Int)) = (6 : Int))))) rfl ⟨_, rfl, ⟨_, _, rfl, qs_unlast (qs_last (qs_setO (qc_lcA (qc_bnd (qc_fz (qc_fnO (qc_cons (qc_var rfl (qc_nil ⟨rfl, qt_par (t := t_law_comb r20) (fun r => r.map (e4 eI eI eI eI)) (fun _ h => tt_law_comb h) fun r31 => (qc_lft (qt_tot _ rfl ⟨_, _, r31, (e4 eI eI eI eI), u_law_3, (e2 eI eI), _, rfl, rfl, rfl, rfl, (fun a32 => ⟨_, rfl, rfl, by unfold u_law_3; exact (qc_tup (qc_cons (qc_op (qc_var rfl (qc_pur (qt_tot (eI a32.1) rfl (qc_cons (qc_op (qc_var rfl (qc_pur (qt_tot (eI a32.2.1) rfl (qc_nil ⟨(Nat.le_of_ble_eq_true rfl), ⟨_, rfl, rfl, rfl⟩⟩))))))))))))⟩), fun cs33 => (qs_fr (ε' := [.dat ((eR eI) script0), .dat (eB small2), .own (List.map (e4 eI eI eI eI) r4), .dat ((e4 eI eI eI eI) it5), .dat ((e4 eI eI eI eI) r8), .dat ((eL eI) r9), .own (List.map eI cs11), .dat ((eL eI) r20), .dat ((eL (e4 eI eI eI eI)) y19), .own (List.map (e2 eI eI) cs33), .un, .un, .un, .un, .un, .un, .un, .un, .un]) rfl (qs_nil (fin ⟨_, rfl, rfl⟩)))⟩))⟩))))))))), qs_unlast (qs_nil (fin ⟨_, rfl, rfl⟩))⟩⟩))))))⟩⟩))))))))))))) fun s29 => (qs_setO (qc_lcA (qc_bnd (qc_cons (qc_lenN_ownM rfl (qc_nil (qc_lft (qt_par (t := rng1G ((s29.length : Int))) (fun xs => xs.map eI) (fun _ h => rng1_ok h) fun rg34 => ⟨_, _, rg34, eI, (u_law_4 s29), ePl, _, rfl, rfl, rfl, rfl, (fun a35 => ⟨_, rfl, rfl, by unfold u_law_4; exact (qc_op (qc_itemN rfl rfl (qc_var rfl ⟨_, _, _, rfl, rfl, rfl, (qt_par (t := atI s29 a35) (e2 eI eI) (fun _ h => ixN_ok h) fun it36 => (qc_op (qc_tup (qc_cons (qc_tup (qc_nil ⟨(Nat.le_of_ble_eq_true rfl), (qc_cons (qc_tup (qc_cons (qc_pur (qc_nil ⟨(Nat.le_of_ble_eq_true rfl), (qc_cons (qc_tup (qc_cons (qc_pur (qc_cons (qc_tup (qc_cons (qc_pur (qc_cons (qc_pur (qc_cons (qc_pur (qc_cons (qc_pur (qc_nil ⟨(Nat.le_of_ble_eq_true rfl), (qc_nil ⟨(Nat.le_of_ble_eq_true rfl), (qc_nil ⟨(Nat.le_of_ble_eq_true rfl), (qc_op (qc_var rfl (qc_pur (qt_tot (eI ((a35 % (3 : Int)))) rfl (qt_par (t := atI ([[], [(eI ((7 : Int)))], [(eI ((0 : Int))), ((e4 eI eI eI eI) (((0 : Int), (0 : Int), (0 : Int), (9 : Int))))]]) ((a35 % (3 : Int)))) (eT eD) (fun _ h => ixT_ok (e := (eT eD)) (xs := [[], [(eI ((7 : Int)))], [(eI ((0 : Int))), ((e4 eI eI eI eI) (((0 : Int), (0 : Int), (0 : Int), (9 : Int))))]]) h) fun it37 => (qt_par (t := plG it36 it37) ePl (fun _ h => plG_ok h) fun l38 => ⟨_, rfl, rfl, rfl⟩))))))⟩)⟩)⟩)))))))))))))))⟩)))))⟩))))))⟩)))⟩), fun cs39 => (qs_fr (ε' := [.dat ((eR eI) script0), .dat (eB small2), .own (List.map (e4 eI eI eI eI) r4), .dat ((e4 eI eI eI eI) it5), .dat ((e4 eI eI eI eI) r8), .dat ((eL eI) r9), .own (List.map eI cs11), .dat ((eL eI) r20), .dat ((eL (e4 eI eI eI eI)) y19), .own (List.map (e2 eI eI) s29), .own (List.map ePl cs39), .un, .un, .un, .un, .un, .un, .un, .un]) rfl (qs_set (qc_fn (qc_cons (qc_var rfl (qc_cons (qc_pur (qc_cons (qc_pur (qc_cons (qc_pur (qc_cons (qc_pur (qc_nil ⟨rfl, qt_par (t := t_law_numbers script0 ((48 : Int)) ((10 : Int)) ((4 : Int)) false) (fun r => Ans.ret ((eL eI) r)) (fun _ h => tt_law_numbers h) fun r40 => ⟨_, rfl, (qs_fr (ε' := [.dat ((eR eI) script0), .dat (eB small2), .own (List.map (e4 eI eI eI eI) r4), .dat ((e4 eI eI eI eI) it5), .dat ((e4 eI eI eI eI) r8), .dat ((eL eI) r9), .own (List.map eI cs11), .dat ((eL eI) r20), .dat ((eL (e4 eI eI eI eI)) y19), .own (List.map (e2 eI eI) s29), .own (List.map ePl cs39), .dat ((eL eI) r40), .un, .un, .un, .un, .un, .un, .un]) rfl (qs_set (qc_ifv (e := (e2 eI eI)) (x := ((9 : Int), (7 : Int))) (y := ((70 : Int), (3 : Int))) (qc_B (qc_op (qc_op (qc_call (qc_cons (qc_fn (qc_cons (qc_var rfl (qc_cons (qc_pur (qc_nil ⟨rfl, qt_par (t := t_law_cell script0 ((3 : Int))) (fun r => Ans.ret (eI r)) (fun _ h => tt_law_cell h) fun r41 => ⟨_, rfl, (qc_nil (qt_tot (eI r41) rfl (qc_pur (qt_tot (eI ((r41 % (8 : Int)))) rfl (qc_pur (qt_tot (eB ((!(decide ((r41 % (8 : Int)) = (1 : Int)))))) rfl ⟨_, rfl, ⟨(fun _ => (qc_tup (qc_cons (qc_pur (qc_cons (qc_pur (qc_nil ⟨(Nat.le_of_ble_eq_true rfl), ⟨rfl, rfl, rfl⟩⟩))))))), (fun _ => (qc_tup (qc_cons (qc_pur (qc_cons (qc_pur (qc_nil ⟨(Nat.le_of_ble_eq_true rfl), ⟨rfl, rfl, rfl⟩⟩))))))), (qs_let (v := (if (!(decide ((r41 % (8 : Int)) = (1 : Int)))) = true then ((9 : Int), (7 : Int)) else ((70 : Int), (3 : Int)))) (fun most42 => [.dat ((eR eI) script0), .dat (eB small2), .own (List.map (e4 eI eI eI eI) r4), .dat ((e4 eI eI eI eI) it5), .dat ((e4 eI eI eI eI) r8), .dat ((eL eI) r9), .own (List.map eI cs11), .dat ((eL eI) r20), .dat ((eL (e4 eI eI eI eI)) y19), .own (List.map (e2 eI eI) s29), .own (List.map ePl cs39), .dat ((eL eI) r40), .dat ((e2 eI eI) most42), .un, .un, .un, .un, .un, .un]) fun most42 => (qs_set (qc_tup (qc_cons (qc_op (qc_var rfl (qc_pur (qt_tot (eI it5.1) rfl (qc_cons (qc_op (qc_var rfl (qc_pur (qt_tot (eI it5.2.1) rfl (qc_cons (qc_op (qc_op (qc_op (qc_var rfl (qc_pur (qt_tot (eI it5.1) rfl (qc_pur (qt_tot (eI ((it5.1 + (1 : Int)))) rfl (qc_op (qc_call (qc_cons (qc_op (qc_var rfl (qc_pur (qt_par (t := atI r40 ((0 : Int))) eI (fun _ h => ixL_ok (e := eI) (xs := r40) h) fun it43 => (qc_nil (qt_tot (eI it43) rfl (qc_op (qc_var rfl (qc_pur (qt_tot (eI most42.1) rfl (qt_par (t := modG it43 most42.1) eI (fun _ h => mod_ok h) fun r44 => (qt_tot (eI (((it5.1 + (1 : Int)) + r44))) rfl (qc_cons (qc_op (qc_op (qc_op (qc_var rfl (qc_pur (qt_tot (eI it5.2.1) rfl (qc_pur (qt_tot (eI ((it5.2.1 + (1 : Int)))) rfl (qc_op (qc_call (qc_cons (qc_op (qc_var rfl (qc_pur (qt_par (t := atI r40 ((1 : Int))) eI (fun _ h => ixL_ok (e := eI) (xs := r40) h) fun it45 => (qc_nil (qt_tot (eI it45) rfl (qc_op (qc_var rfl (qc_pur (qt_tot (eI most42.2) rfl (qt_par (t := modG it45 most42.2) eI (fun _ h => mod_ok h) fun r46 => (qt_tot (eI (((it5.2.1 + (1 : Int)) + r46))) rfl (qc_nil ⟨(Nat.le_of_ble_eq_true rfl), (qs_let (v := (it5.1, it5.2.1, ((it5.1 + (1 : Int)) + r44), ((it5.2.1 + (1 : Int)) + r46))) (fun rect47 => [.dat ((eR eI) script0), .dat (eB small2), .own (List.map (e4 eI eI eI eI) r4), .dat ((e4 eI eI eI eI) it5), .dat ((e4 eI eI eI eI) r8), .dat ((eL eI) r9), .own (List.map eI cs11), .dat ((eL eI) r20), .dat ((eL (e4 eI eI eI eI)) y19), .own (List.map (e2 eI eI) s29), .own (List.map ePl cs39), .dat ((eL eI) r40), .dat ((e2 eI eI) most42), .dat ((e4 eI eI eI eI) rect47), .un, .un, .un, .un, .un]) fun rect47 => (qs_set (qc_fn (qc_cons (qc_var rfl (qc_cons (qc_sl (qc_var rfl (qc_lo (qc_pur ⟨_, rfl, (qc_lo (qc_pur ⟨_, rfl, (qt_tot ((eL eI) ((cutL r40 (some ((2 : Int))) (some ((6 : Int)))))) (slL_eq (e := eI) r40 _ _) (qc_nil ⟨rfl, qt_par (t := t_law_part rect47 ((cutL r40 (some ((2 : Int))) (some ((6 : Int)))))) (fun r => Ans.ret ((e4 eI eI eI eI) r)) (fun _ h => tt_law_part h) fun r48 => ⟨_, rfl, (qs_fr (ε' := [.dat ((eR eI) script0), .dat (eB small2), .own (List.map (e4 eI eI eI eI) r4), .dat ((e4 eI eI eI eI) it5), .dat ((e4 eI eI eI eI) r8), .dat ((eL eI) r9), .own (List.map eI cs11), .dat ((eL eI) r20), .dat ((eL (e4 eI eI eI eI)) y19), .own (List.map (e2 eI eI) s29), .own (List.map ePl cs39), .dat ((eL eI) r40), .dat ((e2 eI eI) most42), .dat ((e4 eI eI eI eI) rect47), .dat ((e4 eI eI eI eI) r48), .un, .un, .un, .un]) rfl (qs_set (qc_fn (qc_cons (qc_fn (qc_cons (qc_var rfl (qc_cons (qc_pur (qc_cons (qc_pur (qc_nil ⟨rfl, qt_par (t := t_law_draws script0 ((3 : Int)) ((63 : Int))) (fun r => Ans.ret ((eL eI) r)) (fun _ h => tt_law_draws h) fun r49 => ⟨_, rfl, (qc_cons (qc_var rfl (qc_nil ⟨rfl, qt_par (t := t_law_things r49 rect47) (fun r => Ans.ret ((eDt eD) r)) (fun _ h => tt_law_things h) fun r50 => ⟨_, rfl, (qs_fr (ε' := [.dat ((eR eI) script0), .dat (eB small2), .own (List.map (e4 eI eI eI eI) r4), .dat ((e4 eI eI eI eI) it5), .dat ((e4 eI eI eI eI) r8), .dat ((eL eI) r9), .own (List.map eI cs11), .dat ((eL eI) r20), .dat ((eL (e4 eI eI eI eI)) y19), .own (List.map (e2 eI eI) s29), .own (List.map ePl cs39), .dat ((eL eI) r40), .dat ((e2 eI eI) most42), .dat ((e4 eI eI eI eI) rect47), .dat ((e4 eI eI eI eI) r48), .dat ((eDt eD) r50), .un, .un, .un]) rfl (qs_pre (qs_fr (ε' := [.dat ((eR eI) script0), .dat (eB small2), .own (List.map (e4 eI eI eI eI) r4), .dat ((e4 eI eI eI eI) it5), .dat ((e4 eI eI eI eI) r8), .dat ((eL eI) r9), .dat ((eL eI) cs11), .dat ((eL eI) r20), .dat ((eL (e4 eI eI eI eI)) y19), .own (List.map (e2 eI eI) s29), .dat ((eL ePl) cs39), .dat ((eL eI) r40), .dat ((e2 eI eI) most42), .dat ((e4 eI eI eI eI) rect47), .dat ((e4 eI eI eI eI) r48), .dat ((eDt eD) r50), .un, .un, .un]) rfl (qs_if (qc_orP (qc_not (qc_B (qc_fn (qc_cons (qc_var rfl (qc_cons (qc_var rfl (qc_cons (qc_var rfl (qc_nil ⟨rfl, qt_par (t := t_law_pairs it5 r8 cs11) (fun r => Ans.ret (eB r)) (fun _ h => tt_law_pairs h) fun r51 => ⟨_, rfl, ⟨_, rfl, ⟨_, _, _, (fun b57 => b57), (fun b57 => [.dat ((eR eI) script0), .dat (eB small2), .own (List.map (e4 eI eI eI eI) r4), .dat ((e4 eI eI eI eI) it5), .dat ((e4 eI eI eI eI) r8), .dat ((eL eI) r9), .dat ((eL eI) cs11), .dat ((eL eI) r20), .dat ((eL (e4 eI eI eI eI)) y19), .own (List.map (e2 eI eI) s29), .dat ((eL ePl) cs39), .dat ((eL eI) r40), .dat ((e2 eI eI) most42), .dat ((e4 eI eI eI eI) rect47), .dat ((e4 eI eI eI eI) r48), .dat ((eDt eD) r50), .un, .un, .un]), true, rfl, ⟨rfl, rfl⟩, (qc_orP (qc_not (qc_B (qc_fn (qc_cons (qc_var rfl (qc_cons (qc_var rfl (qc_nil ⟨rfl, qt_par (t := t_law_arounds y19 cs39) (fun r => Ans.ret (eB r)) (fun _ h => tt_law_arounds h) fun r52 => ⟨_, rfl, ⟨_, rfl, ⟨_, _, _, (fun b56 => b56), (fun b56 => [.dat ((eR eI) script0), .dat (eB small2), .own (List.map (e4 eI eI eI eI) r4), .dat ((e4 eI eI eI eI) it5), .dat ((e4 eI eI eI eI) r8), .dat ((eL eI) r9), .dat ((eL eI) cs11), .dat ((eL eI) r20), .dat ((eL (e4 eI eI eI eI)) y19), .own (List.map (e2 eI eI) s29), .dat ((eL ePl) cs39), .dat ((eL eI) r40), .dat ((e2 eI eI) most42), .dat ((e4 eI eI eI eI) rect47), .dat ((e4 eI eI eI eI) r48), .dat ((eDt eD) r50), .un, .un, .un]), true, rfl, ⟨rfl, rfl⟩, (qc_not (qc_B (qc_fn (qc_cons (qc_var rfl (qc_cons (qc_op (qc_var rfl (qc_pur (qt_par (t := atI r9 ((4 : Int))) eI (fun _ h => ixL_ok (e := eI) (xs := r9) h) fun it53 => (qc_cons (qc_op (qc_var rfl (qc_pur (qt_par (t := atI r9 ((5 : Int))) eI (fun _ h => ixL_ok (e := eI) (xs := r9) h) fun it54 => (qc_nil ⟨rfl, qt_par (t := t_law_inside it5 it53 it54) (fun r => Ans.ret (eB r)) (fun _ h => tt_law_inside h) fun r55 => ⟨_, rfl, ⟨_, rfl, ⟨_, rfl, rfl, rfl⟩⟩⟩⟩)))))))))))))))), fun b56 => ⟨_, rfl, rfl, rfl⟩⟩⟩⟩⟩))))))))), fun b57 => ⟨_, _, rfl, (qs_end (qs_ret (qc_pur (fin (nx_rt ⟨_, rfl⟩))))), (qs_skip (qs_ret (qc_andVP (qc_fn (qc_cons (qc_var rfl (qc_cons (qc_op (qc_var rfl (qc_pur (qt_par (t := atI r9 ((4 : Int))) eI (fun _ h => ixL_ok (e := eI) (xs := r9) h) fun it58 => (qc_cons (qc_op (qc_var rfl (qc_pur (qt_par (t := atI r9 ((5 : Int))) eI (fun _ h => ixL_ok (e := eI) (xs := r9) h) fun it59 => (qc_nil ⟨rfl, qt_par (t := t_law_inside r8 it58 it59) (fun r => Ans.ret (eB r)) (fun _ h => tt_law_inside h) fun r60 => ⟨_, rfl, ⟨_, _, _, _, (fun b63 => b63), (fun b63 => [.dat ((eR eI) script0), .dat (eB small2), .own (List.map (e4 eI eI eI eI) r4), .dat ((e4 eI eI eI eI) it5), .dat ((e4 eI eI eI eI) r8), .dat ((eL eI) r9), .dat ((eL eI) cs11), .dat ((eL eI) r20), .dat ((eL (e4 eI eI eI eI)) y19), .own (List.map (e2 eI eI) s29), .dat ((eL ePl) cs39), .dat ((eL eI) r40), .dat ((e2 eI eI) most42), .dat ((e4 eI eI eI eI) rect47), .dat ((e4 eI eI eI eI) r48), .dat ((eDt eD) r50), .un, .un, .un]), false, rfl, rfl, ⟨rfl, rfl⟩, (qc_fn (qc_cons (qc_var rfl (qc_cons (qc_var rfl (qc_cons (qc_var rfl (qc_cons (qc_fn (qc_cons (qc_var rfl (qc_cons (qc_sl (qc_var rfl (qc_lo (qc_pur ⟨_, rfl, (qc_pur (qt_tot ((eL eI) ((cutL r40 (some ((6 : Int))) none))) (slL_eq (e := eI) r40 _ _) (qc_nil ⟨rfl, qt_par (t := t_law_part r48 ((cutL r40 (some ((6 : Int))) none))) (fun r => Ans.ret ((e4 eI eI eI eI) r)) (fun _ h => tt_law_part h) fun r61 => ⟨_, rfl, (qc_nil ⟨rfl, qt_par (t := t_law_cuts r50 rect47 r48 r61) (fun r => Ans.ret (eB r)) (fun _ h => tt_law_cuts h) fun r62 => ⟨_, rfl, ⟨_, rfl, rfl, rfl⟩⟩⟩)⟩⟩)))⟩)))))))))))))))), fun b63 => (fin ⟨_, rfl⟩)⟩⟩⟩)))))))))))))))))⟩⟩⟩⟩⟩)))))))))))))))⟩⟩)))⟩⟩))))))))))))⟩⟩))⟩))⟩))))))))))⟩))))))))))))))))))))))))))))))))))))))))))))))))))))))))))))))⟩⟩))))))⟩⟩))))))))))))))⟩⟩))))))))))))))⟩))))))))))⟩)))))))))⟩⟩))))))))))))))))))⟩⟩))))))))))))))⟩⟩))))))⟩⟩))))))))))))))⟩⟩))))))))))))))⟩)))⟩)))))))))⟩⟩))))))))))))))⟩⟩)))))⟩⟩)))))))))))⟩)))))))))⟩))))⟩)))⟩⟩))))))))))))))))))))))))⟩⟩))))))))))))
theorem law_of {script0 : List Int} (h : t_law script0 = some true) : runP 19 g_law [.rdl (script0.map D.int)] = some (.ret (.bl true)) := run_P (er := eB) (ε := [.dat ((eR eI) script0), .un, .un, .un, .un, .un, .un, .un, .un, .un, .un, .un, .un, .un, .un, .un, .un, .un, .un]) rfl (tq_law script0) h
/-! the draws -/
theorem cell_ok (script : List Int) {k : Nat} : ∃ r, t_law_cell script (k : Int) = some r := by
  unfold t_law_cell
  by_cases hl : (k : Int) < (script.length : Int)
  · rw [if_pos (decide_eq_true hl)]
    obtain ⟨x, hx, _⟩ := atI_at (xs := script) (i := (k : Int)) (by omega) hl
    exact ⟨x, by rw [hx]; rfl⟩
  · rw [if_neg (by rw [decide_eq_true_eq]; exact hl)]
    exact ⟨_, rfl⟩
theorem pow10 {b : Nat} (h : b ≤ 1000) : powG (10 : Int) (b : Int) = some (10 ^ b) := by
  unfold powG
  rw [if_pos ⟨by omega, by omega, by decide⟩, Int.toNat_natCast]
theorem dr2 {R : Nat} (hR : R ≤ 1000) (k : Nat) (s : List Int × Int) (hk : k < 1000) (h : s.1.length = R + k ∧ 0 ≤ s.2 ∧ s.2 < 4294967296) : ∃ s', u_law_draws_2 (0 + (k : Int)) s = some s' ∧ (s'.1.length = R + (k + 1) ∧ 0 ≤ s'.2 ∧ s'.2 < 4294967296) := by
  obtain ⟨rows, seed⟩ := s
  obtain ⟨h1, h2, h3⟩ := h
  dsimp only at h1 h2 h3
  unfold u_law_draws_2 letO
  dsimp only
  rw [mul_small (by omega) (by omega), Option.bind_some, mul_small (by omega) (by omega), Option.bind_some]
  generalize hz : (seed * seed + 48271 * (0 + (k : Int) + 1) + 12345) % 999983 = z
  have z0 : 0 ≤ z ∧ z < 999983 := by rw [← hz]; exact ⟨Int.emod_nonneg _ (by decide), Int.emod_lt_of_pos _ (by decide)⟩
  rw [mul_small (by omega) (by omega), Option.bind_some, mul_small (by omega) (by omega), Option.bind_some, TL.app_ok (by omega), Option.bind_some]
  exact ⟨_, rfl, by simp; omega, by simp; omega, by simp; omega⟩
theorem draws_ok (script : List Int) {a count : Nat} (ha : a ≤ 1000) (hc : count ≤ 1000) : ∃ r, t_law_draws script (a : Int) (count : Int) = some r ∧ r.length = count := by
  unfold t_law_draws
  obtain ⟨c, h1⟩ : ∃ c, (if (decide ((a : Int) < (script.length : Int))) = true then (atI script (a : Int)).bind fun it2 => letO ((absT it2) : Int) fun cell3 => some cell3 else some ((0 : Int))) = some c := by
    by_cases hl : (a : Int) < (script.length : Int)
    · rw [if_pos (decide_eq_true hl)]
      obtain ⟨x, hx, _⟩ := atI_at (xs := script) (i := (a : Int)) (by omega) hl
      exact ⟨_, by rw [hx]; rfl⟩
    · rw [if_neg (by rw [decide_eq_true_eq]; exact hl)]
      exact ⟨_, rfl⟩
  rw [h1, Option.bind_some, show (18 : Int) = ((18 : Nat) : Int) from rfl, pow10 (by decide), Option.bind_some]
  obtain ⟨s, h2, h3⟩ : ∃ s, (if (decide ((10 : Int) ^ 18 ≤ c)) = true then (rng1G (count : Int)).bind fun rg6 => forS u_law_draws_1 rg6 (([], c)) fun s7 => some ((s7.1, s7.2)) else some (([], c))) = some s ∧ s.1.length ≤ count := by
    split
    · rw [rng1_nat (by omega), Option.bind_some]
      obtain ⟨s, q1, q2⟩ := show ∃ s, forS u_law_draws_1 (rngI 0 count) (([], c)) (fun s7 => some ((s7.1, s7.2))) = some s ∧ s.1.length ≤ count from by
        have go : ∀ (n : Nat) (lo : Int) (s : List Int × Int), s.1.length + n ≤ count → ∃ s', forS u_law_draws_1 (rngI lo n) s (fun s7 => some ((s7.1, s7.2))) = some s' ∧ s'.1.length ≤ count := fun n => by
          induction n with
          | zero => intro lo s h; rw [rngI_zero]; exact ⟨_, rfl, by omega⟩
          | succ n ih =>
            intro lo s h
            rw [rngI_succ]
            unfold forS
            by_cases hz : s.2 = 0
            · have : u_law_draws_1 lo s = some (.brk (s.1, s.2)) := by
                unfold u_law_draws_1
                rw [if_pos (decide_eq_true hz)]
              rw [this, Option.bind_some]
              exact ⟨_, rfl, by simp; omega⟩
            · have : u_law_draws_1 lo s = some (.go (s.1 ++ [s.2 % 9973], s.2 / 9973)) := by
                unfold u_law_draws_1 letO
                rw [if_neg (by rw [decide_eq_true_eq]; exact hz), TL.app_ok (by omega), Option.bind_some]
              rw [this, Option.bind_some]
              exact ih (lo + 1) _ (by simp; omega)
        exact go count 0 ([], c) (by simp)
      exact ⟨s, q1, q2⟩
    · exact ⟨_, rfl, by simp⟩
  rw [h2, Option.bind_some, mul_small (by omega) (by omega), Option.bind_some]
  unfold letO
  dsimp only
  rw [show (count : Int) - (s.1.length : Int) = ((count - s.1.length : Nat) : Int) by omega, rng1_nat (by omega), Option.bind_some]
  have hz : 0 ≤ c % 1000003 ∧ c % 1000003 < 1000003 := ⟨Int.emod_nonneg _ (by decide), Int.emod_lt_of_pos _ (by decide)⟩
  generalize c % 1000003 = z at hz
  obtain ⟨s', q1, q2, q3, q4⟩ := fold_rng (b := u_law_draws_2) (n := count - s.1.length) (lo := 0) (fun j s' => s'.1.length = s.1.length + j ∧ 0 ≤ s'.2 ∧ s'.2 < 4294967296) (fun j s' hj hs => dr2 (by omega) j s' (by omega) hs) (s := (s.1, z + 611 * (a : Int) + 17)) ⟨rfl, by simp; omega, by simp; omega⟩
  rw [q1, Option.bind_some]
  exact ⟨_, rfl, by omega⟩

/-! rectangles -/
abbrev Q4 : Type := Int × Int × Int × Int
def okR (r : Q4) : Prop := r.1 < r.2.2.1 ∧ r.2.1 < r.2.2.2
theorem abs_nn (x : Int) : 0 ≤ absT x := by unfold absT; split <;> omega
theorem at_ok {xs : List Int} {i : Int} (h0 : 0 ≤ i) (h : i < xs.length) : ∃ x, atI xs i = some x ∧ x ∈ xs := by
  obtain ⟨x, h1, _, h2⟩ := atI_at h0 h
  exact ⟨x, h1, h2⟩
theorem rects_ok {numbers : List Int} {m : Nat} (h : 4 * m ≤ numbers.length) (hm : m ≤ 1000) : ∃ r, t_law_rects numbers (m : Int) = some r ∧ r.length = m ∧ ∀ q ∈ r, okR q := by
  unfold t_law_rects
  rw [rng1_nat (by omega), Option.bind_some]
  obtain ⟨s, q1, q2, q3⟩ := fold_rng (b := u_law_rects_1 numbers) (n := m) (lo := 0) (fun k s => s.length = k ∧ ∀ q ∈ s, okR q) (fun k s hk ⟨h1, h2⟩ => by
    unfold u_law_rects_1
    rw [mul_small (by omega) (by omega), Option.bind_some]
    obtain ⟨a, a1, _⟩ := at_ok (xs := numbers) (i := 4 * (0 + (k : Int))) (by omega) (by omega)
    obtain ⟨b, b1, _⟩ := at_ok (xs := numbers) (i := 4 * (0 + (k : Int)) + 1) (by omega) (by omega)
    obtain ⟨c, c1, _⟩ := at_ok (xs := numbers) (i := 4 * (0 + (k : Int)) + 2) (by omega) (by omega)
    obtain ⟨d, d1, _⟩ := at_ok (xs := numbers) (i := 4 * (0 + (k : Int)) + 3) (by omega) (by omega)
    simp only [Option.bind_some, a1, b1, c1, d1]
    rw [TL.app_ok (by omega), Option.bind_some]
    refine ⟨_, rfl, by simp [h1], fun q hq => ?_⟩
    rcases List.mem_append.mp hq with hq | hq
    · exact h2 q hq
    · rw [List.mem_singleton.mp hq]
      have := abs_nn c
      have := abs_nn d
      exact ⟨by show a < a + 1 + absT c; omega, by show b < b + 1 + absT d; omega⟩) (s := []) ⟨rfl, fun q hq => by cases hq⟩
  rw [q1, Option.bind_some]
  exact ⟨s, rfl, q2, q3⟩
theorem second_ok {a b : Q4} (ha : okR a) (hb : okR b) (way : Int) : ∃ r, t_law_second a b way = some r ∧ okR r := by
  obtain ⟨ax, ay, az, aw⟩ := a
  obtain ⟨bx, by', bz, bw⟩ := b
  obtain ⟨a1, a2⟩ := ha
  obtain ⟨b1, b2⟩ := hb
  dsimp only at a1 a2 b1 b2
  unfold t_law_second letO okR
  dsimp only
  rw [mod_pos (by omega), mod_pos (by omega)]
  simp only [Option.bind_some]
  have m1 := Int.emod_lt_of_pos (bz - bx) (b := az - ax) (by omega)
  have m2 := Int.emod_lt_of_pos (bw - by') (b := aw - ay) (by omega)
  repeat' split
  all_goals first
    | exact ⟨_, rfl, by dsimp only; omega, by dsimp only; omega⟩
theorem part_ok {rect : Q4} (h : okR rect) {numbers : List Int} (hl : 4 ≤ numbers.length) : ∃ r, t_law_part rect numbers = some r ∧ okR r ∧ rect.1 ≤ r.1 ∧ rect.2.1 ≤ r.2.1 ∧ r.2.2.1 ≤ rect.2.2.1 ∧ r.2.2.2 ≤ rect.2.2.2 := by
  obtain ⟨x, y, z, w⟩ := rect
  obtain ⟨h1, h2⟩ := h
  dsimp only at h1 h2
  unfold t_law_part letO okR
  obtain ⟨a, a1, _⟩ := at_ok (xs := numbers) (i := 0) (by omega) (by omega)
  obtain ⟨b, b1, _⟩ := at_ok (xs := numbers) (i := 1) (by omega) (by omega)
  obtain ⟨c, c1, _⟩ := at_ok (xs := numbers) (i := 2) (by omega) (by omega)
  obtain ⟨d, d1, _⟩ := at_ok (xs := numbers) (i := 3) (by omega) (by omega)
  dsimp only
  rw [a1, b1, c1, d1]
  simp only [Option.bind_some]
  have m1 := Int.emod_lt_of_pos a (b := z - x) (by omega)
  have m2 := Int.emod_lt_of_pos b (b := w - y) (by omega)
  have n1 := Int.emod_nonneg a (b := z - x) (by omega)
  have n2 := Int.emod_nonneg b (b := w - y) (by omega)
  rw [mod_pos (by omega), Option.bind_some, mod_pos (by omega), Option.bind_some, mod_pos (by omega), Option.bind_some, mod_pos (by omega), Option.bind_some]
  have m3 := Int.emod_lt_of_pos c (b := z - (x + a % (z - x))) (by omega)
  have m4 := Int.emod_lt_of_pos d (b := w - (y + b % (w - y))) (by omega)
  have n3 := Int.emod_nonneg c (b := z - (x + a % (z - x))) (by omega)
  have n4 := Int.emod_nonneg d (b := w - (y + b % (w - y))) (by omega)
  exact ⟨_, rfl, ⟨by dsimp only; omega, by dsimp only; omega⟩, by dsimp only; omega, by dsimp only; omega, by dsimp only; omega, by dsimp only; omega⟩

/-! overlaps -/
theorem mid4 {p q r s : Int} (h1 : p < q) (h2 : r < s) (h3 : p < s) (h4 : r < q) : ∃ lo hi, sortI [p, q, r, s] = [lo, max2T p r, min2T q s, hi] := by
  have e1 : r ≤ s := by omega
  have e2 : ¬ q ≤ r := by omega
  have e3 : p ≤ q := by omega
  have e4 : p ≤ s := by omega
  unfold max2T min2T
  by_cases a : q ≤ s
  · by_cases b : p ≤ r
    · refine ⟨p, s, ?_⟩
      simp [sortI, ins1, e1, e2, e3, e4, a, b]
      omega
    · refine ⟨r, s, ?_⟩
      simp [sortI, ins1, e1, e2, e3, e4, a, b]
      omega
  · by_cases b : p ≤ r
    · refine ⟨p, q, ?_⟩
      simp [sortI, ins1, e1, e2, e3, e4, a, b]
      omega
    · refine ⟨r, q, ?_⟩
      simp [sortI, ins1, e1, e2, e3, e4, a, b]
      omega
theorem same_yes {d : D} (h : okD 4 d) : t_law_same d d = some true := by
  unfold t_law_same
  rw [if_pos ⟨rfl, h⟩]
theorem okD_r4 (q : Q4) : okD 4 (e4 eI eI eI eI q) := by
  refine ⟨by simp, fun e he => ?_⟩
  simp at he
  rcases he with rfl | rfl | rfl | rfl <;> exact trivial
theorem okD_o4 (q : Option Q4) : okD 4 (eO (e4 eI eI eI eI) q) := by
  cases q with
  | none => exact trivial
  | some q => exact okD_r4 q
theorem overlap_ok (a b : Q4) : ∃ o, t_overlap a b = some o := by
  unfold t_overlap letO
  dsimp only
  split
  · exact ⟨_, rfl⟩
  · exact ⟨_, rfl⟩
theorem common_eq {a b : Q4} (ha : okR a) (hb : okR b) : t_law_common a b = t_overlap a b := by
  obtain ⟨ax, ay, az, aw⟩ := a
  obtain ⟨bx, by', bz, bw⟩ := b
  obtain ⟨a1, a2⟩ := ha
  obtain ⟨b1, b2⟩ := hb
  dsimp only at a1 a2 b1 b2
  unfold t_law_common t_overlap letO
  dsimp only
  by_cases h : bz ≤ ax ∨ az ≤ bx ∨ bw ≤ ay ∨ aw ≤ by'
  · rw [if_pos (by simp only [Bool.or_eq_true, decide_eq_true_eq]; exact h), if_neg]
    simp only [Bool.and_eq_true, decide_eq_true_eq]
    unfold max2T min2T
    rintro ⟨h1, h2⟩
    split at h1 <;> split at h1 <;> split at h2 <;> split at h2 <;> omega
  · rw [if_neg (by simp only [Bool.or_eq_true, decide_eq_true_eq]; exact h)]
    obtain ⟨l1, u1, e1⟩ := mid4 (p := ax) (q := az) (r := bx) (s := bz) a1 b1 (by omega) (by omega)
    obtain ⟨l2, u2, e2⟩ := mid4 (p := ay) (q := aw) (r := by') (s := bw) a2 b2 (by omega) (by omega)
    rw [e1, e2, if_pos]
    · rfl
    · simp only [Bool.and_eq_true, decide_eq_true_eq]
      unfold max2T min2T
      constructor
      · split <;> split <;> omega
      · split <;> split <;> omega
theorem overlap_comm (a b : Q4) : t_overlap a b = t_overlap b a := by
  have h1 : ∀ x y : Int, max2T x y = max2T y x := fun x y => by unfold max2T; split <;> split <;> omega
  have h2 : ∀ x y : Int, min2T x y = min2T y x := fun x y => by unfold min2T; split <;> split <;> omega
  unfold t_overlap
  rw [h1 a.1, h1 a.2.1, h2 a.2.2.1, h2 a.2.2.2]
/-- the part of a rectangle that lies in a wider one -/
theorem overlap_in {w a : Q4} (ha : okR a) (h1 : w.1 ≤ a.1) (h2 : w.2.1 ≤ a.2.1) (h3 : a.2.2.1 ≤ w.2.2.1) (h4 : a.2.2.2 ≤ w.2.2.2) : t_overlap w a = some (some a) := by
  obtain ⟨ax, ay, az, aw⟩ := a
  obtain ⟨wx, wy, wz, ww⟩ := w
  obtain ⟨a1, a2⟩ := ha
  dsimp only at *
  have e1 : max2T wx ax = ax := by unfold max2T; split <;> omega
  have e2 : max2T wy ay = ay := by unfold max2T; split <;> omega
  have e3 : min2T wz az = az := by unfold min2T; split <;> omega
  have e4 : min2T ww aw = aw := by unfold min2T; split <;> omega
  unfold t_overlap letO
  dsimp only
  rw [e1, e2, e3, e4, if_pos (by simp [a1, a2])]
theorem pairs_ok {a b : Q4} (ha : okR a) (hb : okR b) {four : List Int} (hl : 4 ≤ four.length) (hn : ∀ z ∈ four, 0 ≤ z) : t_law_pairs a b four = some true := by
  unfold t_law_pairs
  obtain ⟨o, ho⟩ := overlap_ok a b
  obtain ⟨p, p1, p2⟩ := at_ok (xs := four) (i := 0) (by omega) (by omega)
  obtain ⟨q, q1, q2⟩ := at_ok (xs := four) (i := 1) (by omega) (by omega)
  obtain ⟨r, r1, r2⟩ := at_ok (xs := four) (i := 2) (by omega) (by omega)
  obtain ⟨s, s1, s2⟩ := at_ok (xs := four) (i := 3) (by omega) (by omega)
  have := hn p p2
  have := hn q q2
  have := hn r r2
  have := hn s s2
  rw [common_eq ha hb, ho, Option.bind_some, Option.bind_some, same_yes (okD_o4 o), Option.bind_some, if_neg (by decide), overlap_comm b a, ho, Option.bind_some, same_yes (okD_o4 o), Option.bind_some, if_neg (by decide),
    overlap_in ha (Int.le_refl _) (Int.le_refl _) (Int.le_refl _) (Int.le_refl _), Option.bind_some]
  rw [show t_law_same (eO (e4 eI eI eI eI) (some a)) (e4 eI eI eI eI a) = some true from same_yes (okD_r4 a)]
  simp only [Option.bind_some, p1, q1, r1, s1]
  rw [if_neg (by decide)]
  unfold letO
  dsimp only
  rw [show t_widened a p q r s = some (a.1 - p, a.2.1 - q, a.2.2.1 + r, a.2.2.2 + s) from by unfold t_widened; rfl, Option.bind_some, same_yes (okD_r4 _), Option.bind_some, if_neg (by decide)]
  rw [overlap_in ha (by dsimp only; omega) (by dsimp only; omega) (by dsimp only; omega) (by dsimp only; omega), Option.bind_some]
  rw [show t_law_same (eO (e4 eI eI eI eI) (some a)) (e4 eI eI eI eI a) = some true from same_yes (okD_r4 a), Option.bind_some]

/-! what lies inside -/
theorem holds_eq (a : Q4) (x y : Int) : t_holds a x y = some (decide ((a.1 ≤ x ∧ x < a.2.2.1) ∧ a.2.1 ≤ y ∧ y < a.2.2.2)) := by
  unfold t_holds
  congr 1
  rw [Bool.eq_iff_iff]
  simp only [Bool.and_eq_true, decide_eq_true_eq]
theorem same_b (b : Bool) : t_law_same (eB b) (eB b) = some true := same_yes (d := .bl b) trivial
theorem inside_turn {a : Q4} {x y : Int} (h : ¬ ((a.1 ≤ x ∧ x < a.2.2.1) ∧ a.2.1 ≤ y ∧ y < a.2.2.2)) (s : Int × Int) : u_law_inside_1 a (x, y) s = some (.go (x, y)) := by
  unfold u_law_inside_1
  dsimp only
  rw [holds_eq, Option.bind_some, decide_eq_false h, same_b, Option.bind_some]
  rfl
theorem inside_ok {a : Q4} (ha : okR a) (x y : Int) : t_law_inside a x y = some true := by
  obtain ⟨ax, ay, az, aw⟩ := a
  obtain ⟨a1, a2⟩ := ha
  dsimp only at a1 a2
  unfold t_law_inside letO
  dsimp only
  have e : (decide (ax ≤ x) && (decide (x ≤ az - 1) && (decide (ay ≤ y) && decide (y ≤ aw - 1)))) = decide ((ax ≤ x ∧ x < az) ∧ ay ≤ y ∧ y < aw) := by
    rw [Bool.eq_iff_iff]
    simp only [Bool.and_eq_true, decide_eq_true_eq]
    omega
  rw [e, holds_eq, Option.bind_some, same_b, Option.bind_some, if_neg (by decide), holds_eq, Option.bind_some, decide_eq_true (by dsimp only; omega), same_b, Option.bind_some, if_neg (by decide), holds_eq, Option.bind_some, decide_eq_true (by dsimp only; omega), same_b, Option.bind_some, Option.bind_some, if_neg (by decide)]
  unfold forS
  rw [inside_turn (by dsimp only; omega), Option.bind_some]
  dsimp only
  unfold forS
  rw [inside_turn (by dsimp only; omega), Option.bind_some]
  dsimp only
  unfold forS
  rw [inside_turn (by dsimp only; omega), Option.bind_some]
  dsimp only
  unfold forS
  rw [inside_turn (by dsimp only; omega), Option.bind_some]
  dsimp only
  unfold forS
  rw [inside_turn (by dsimp only; omega), Option.bind_some]
  dsimp only
  unfold forS
  rfl

/-! hulls -/
theorem minI_two : ∀ (l : List Int) (x y : Int), minI (x :: y :: l) = minI ((if y < x then y else x) :: l)
  | [], x, y => rfl
  | z :: l, x, y => by
    have e : ∀ a b : Int, minI (a :: b :: l) = if minI (b :: l) < a then minI (b :: l) else a := fun a b => rfl
    have e1 : minI (x :: y :: z :: l) = if minI (y :: z :: l) < x then minI (y :: z :: l) else x := rfl
    rw [e1, e, e]
    generalize minI (z :: l) = m
    repeat' split
    all_goals omega
theorem maxI_two : ∀ (l : List Int) (x y : Int), maxI (x :: y :: l) = maxI ((if x < y then y else x) :: l)
  | [], x, y => rfl
  | z :: l, x, y => by
    have e : ∀ a b : Int, maxI (a :: b :: l) = if maxI (b :: l) > a then maxI (b :: l) else a := fun a b => rfl
    have e1 : maxI (x :: y :: z :: l) = if maxI (y :: z :: l) > x then maxI (y :: z :: l) else x := rfl
    rw [e1, e, e]
    generalize maxI (z :: l) = m
    repeat' split
    all_goals omega
def box (h : Q4) (r : List Q4) : Q4 := (minI (h.1 :: r.map fun q => q.1), minI (h.2.1 :: r.map fun q => q.2.1), maxI (h.2.2.1 :: r.map fun q => q.2.2.1), maxI (h.2.2.2 :: r.map fun q => q.2.2.2))
theorem hull_first (a : Q4) : u_law_hull_1 a none = some (some a) := by
  unfold u_law_hull_1 letO
  simp
theorem hull_step (a h : Q4) : u_law_hull_1 a (some h) = some (some (if a.1 < h.1 then a.1 else h.1, if a.2.1 < h.2.1 then a.2.1 else h.2.1, if h.2.2.1 < a.2.2.1 then a.2.2.1 else h.2.2.1, if h.2.2.2 < a.2.2.2 then a.2.2.2 else h.2.2.2)) := by
  have e : ∀ (c : Prop) [Decidable c] (x y : Int), (if decide c = true then some x else some y) = some (if c then x else y) := fun c _ x y => by
    by_cases h : c
    · simp [h]
    · simp [h]
  unfold u_law_hull_1 letO
  simp only [Option.isNone_some, Bool.false_eq_true, if_false, Option.bind_some, e]
theorem hull_go : ∀ (r : List Q4) (h : Q4), foldO u_law_hull_1 r (some h) = some (some (box h r))
  | [], h => rfl
  | a :: r, h => by
    unfold foldO
    rw [hull_step, Option.bind_some, hull_go r]
    unfold box
    simp only [List.map_cons]
    rw [minI_two, minI_two, maxI_two, maxI_two]
theorem hull_eq (a : Q4) (r : List Q4) : t_law_hull (a :: r) = some (some (box a r)) := by
  unfold t_law_hull letO foldO
  dsimp only
  rw [hull_first, Option.bind_some, hull_go, Option.bind_some]
theorem min_ok {xs : List Int} (h : 0 < xs.length) : minG xs = some (minI xs) := by unfold minG; rw [if_pos h]
theorem max_ok {xs : List Int} (h : 0 < xs.length) : maxG xs = some (maxI xs) := by unfold maxG; rw [if_pos h]
theorem around_eq (rows : List Q4) (h : rows.length ≤ 1000) : t_around rows = t_law_hull rows := by
  cases rows with
  | nil => unfold t_around t_law_hull letO; rfl
  | cons a r =>
    rw [hull_eq]
    unfold t_around
    rw [if_neg (by simp), cap_ok (by omega), Option.bind_some, mapO_some (f := u_around_1) (g := fun q => q.1) (fun q _ => by unfold u_around_1; rfl), Option.bind_some, min_ok (by simp), Option.bind_some, Option.bind_some, mapO_some (f := u_around_2) (g := fun q => q.2.1) (fun q _ => by unfold u_around_2; rfl), Option.bind_some, min_ok (by simp), Option.bind_some, Option.bind_some, mapO_some (f := u_around_3) (g := fun q => q.2.2.1) (fun q _ => by unfold u_around_3; rfl), Option.bind_some, max_ok (by simp), Option.bind_some, Option.bind_some, mapO_some (f := u_around_4) (g := fun q => q.2.2.2) (fun q _ => by unfold u_around_4; rfl), Option.bind_some, max_ok (by simp), Option.bind_some]
    rfl
theorem aroundL_eq (rows : List Q4) (h : rows.length ≤ 1000) : t_aroundL rows = t_law_hull rows := by
  cases rows with
  | nil => unfold t_aroundL t_law_hull letO; rfl
  | cons a r =>
    rw [hull_eq]
    unfold t_aroundL
    rw [if_neg (by simp), cap_ok (by omega), Option.bind_some, mapO_some (f := u_aroundL_1) (g := fun q => q.1) (fun q _ => by unfold u_aroundL_1; rfl), Option.bind_some, min_ok (by simp), Option.bind_some, Option.bind_some, mapO_some (f := u_aroundL_2) (g := fun q => q.2.1) (fun q _ => by unfold u_aroundL_2; rfl), Option.bind_some, min_ok (by simp), Option.bind_some, Option.bind_some, mapO_some (f := u_aroundL_3) (g := fun q => q.2.2.1) (fun q _ => by unfold u_aroundL_3; rfl), Option.bind_some, max_ok (by simp), Option.bind_some, Option.bind_some, mapO_some (f := u_aroundL_4) (g := fun q => q.2.2.2) (fun q _ => by unfold u_aroundL_4; rfl), Option.bind_some, max_ok (by simp), Option.bind_some]
    rfl
/-- the box of single places -/
def one (p : Pl) : Q4 := (p.1, p.2.1, p.1 + 1, p.2.1 + 1)
theorem maxI_up : ∀ (l : List Int) (x : Int), maxI ((x + 1) :: l.map fun y => y + 1) = maxI (x :: l) + 1
  | [], x => rfl
  | z :: l, x => by
    have e : ∀ (a b : Int) (l : List Int), maxI (a :: b :: l) = if maxI (b :: l) > a then maxI (b :: l) else a := fun a b _ => rfl
    rw [List.map_cons, e, e, maxI_up l z]
    repeat' split
    all_goals omega
theorem places_eq (ps : List Pl) (h : ps.length ≤ 1000) : t_around_places ps = t_law_hull (ps.map one) := by
  cases ps with
  | nil => unfold t_around_places t_law_hull letO; rfl
  | cons a r =>
    rw [List.map_cons, hull_eq]
    unfold t_around_places
    rw [if_neg (by simp), cap_ok (by omega), Option.bind_some, mapO_some (f := u_around_places_1) (g := fun q => q.1) (fun q _ => by unfold u_around_places_1; rfl), Option.bind_some, Option.bind_some, mapO_some (f := u_around_places_2) (g := fun q => q.2.1) (fun q _ => by unfold u_around_places_2; rfl), Option.bind_some, min_ok (by simp), Option.bind_some, min_ok (by simp), Option.bind_some, max_ok (by simp), Option.bind_some, max_ok (by simp), Option.bind_some]
    have m1 := maxI_up (r.map fun q => q.1) a.1
    have m2 := maxI_up (r.map fun q => q.2.1) a.2.1
    rw [List.map_map] at m1 m2
    unfold box one
    simp only [List.map_cons, List.map_map]
    rw [← m1, ← m2]
    rfl
theorem placesL_eq (ps : List Pl) (h : ps.length ≤ 1000) : t_around_placesL ps = t_law_hull (ps.map one) := by
  cases ps with
  | nil => unfold t_around_placesL t_law_hull letO; rfl
  | cons a r =>
    rw [List.map_cons, hull_eq]
    unfold t_around_placesL
    rw [if_neg (by simp), cap_ok (by omega), Option.bind_some, mapO_some (f := u_around_placesL_1) (g := fun q => q.1) (fun q _ => by unfold u_around_placesL_1; rfl), Option.bind_some, Option.bind_some, mapO_some (f := u_around_placesL_2) (g := fun q => q.2.1) (fun q _ => by unfold u_around_placesL_2; rfl), Option.bind_some, min_ok (by simp), Option.bind_some, min_ok (by simp), Option.bind_some, max_ok (by simp), Option.bind_some, max_ok (by simp), Option.bind_some]
    have m1 := maxI_up (r.map fun q => q.1) a.1
    have m2 := maxI_up (r.map fun q => q.2.1) a.2.1
    rw [List.map_map] at m1 m2
    unfold box one
    simp only [List.map_cons, List.map_map]
    rw [← m1, ← m2]
    rfl

/-! data is equal to itself -/
def okE : Nat → D → Prop
  | 0, _ => False
  | n + 1, d => match d with
    | .int _ => True
    | .tup ds => ∀ e ∈ ds, okE n e
    | .lst ds => ∀ e ∈ ds, okE n e
    | _ => False
theorem okE_list {n : Nat} : ∀ {ds : List D}, (∀ e ∈ ds, ∃ p, toPy e = some p ∧ PyData.canLay0 p = true ∧ PyData.depth p ≤ n) → ∃ ps, toPyL ds = some ps ∧ PyData.canLayAll0 ps = true ∧ PyData.depthAll ps ≤ n
  | [], _ => ⟨[], by simp [toPyL], by simp [PyData.canLayAll0], by simp [PyData.depthAll]⟩
  | d :: r, h => by
    obtain ⟨p, a1, a2, a3⟩ := h d (List.mem_cons_self ..)
    obtain ⟨ps, b1, b2, b3⟩ := okE_list (ds := r) fun e he => h e (List.mem_cons_of_mem _ he)
    refine ⟨p :: ps, by rw [toPyL, a1, b1]; rfl, by rw [PyData.canLayAll0, a2, b2]; rfl, ?_⟩
    rw [PyData.depthAll]
    omega
theorem okE_py : ∀ (n : Nat) (d : D), okE n d → ∃ p, toPy d = some p ∧ PyData.canLay0 p = true ∧ PyData.depth p ≤ n
  | 0, d, h => h.elim
  | n + 1, d, h => by
    cases d with
    | int i => exact ⟨.int i, by simp [toPy], by simp [PyData.canLay0], by simp [PyData.depth]⟩
    | tup ds =>
      obtain ⟨ps, a1, a2, a3⟩ := okE_list fun e he => okE_py n e (h e he)
      refine ⟨.tuple ps, by rw [toPy, a1]; rfl, by simp [PyData.canLay0, a2], ?_⟩
      simp only [PyData.depth]
      omega
    | lst ds =>
      obtain ⟨ps, a1, a2, a3⟩ := okE_list fun e he => okE_py n e (h e he)
      refine ⟨.list ps, by rw [toPy, a1]; rfl, by simp [PyData.canLay0, a2], ?_⟩
      simp only [PyData.depth]
      omega
    | _ => exact h.elim
theorem eq_self {n : Nat} {d : D} (h : okE n d) (hn : n ≤ 64) : eqDG d d = some true := by
  obtain ⟨p, h1, h2, h3⟩ := okE_py n d h
  have s : SeqAt.shaped p = true := by
    unfold SeqAt.shaped
    rw [h2]
    simp
    omega
  have e : gEq d d = some (.bl true) := by
    unfold gEq
    rw [h1]
    simp only [Option.bind_some, s, and_self, if_true, SeqAt.eqv_refl p h2]
  unfold eqDG
  rw [e]
theorem arounds_ok {rects : List Q4} {places : List Pl} (h1 : rects.length ≤ 1000) (h2 : places.length ≤ 1000) (h3 : ∀ p ∈ places, ∀ e ∈ p.2.2, okE 3 e) : t_law_arounds rects places = some true := by
  unfold t_law_arounds
  obtain ⟨o, ho⟩ : ∃ o, t_law_hull rects = some o := by
    cases rects with
    | nil => exact ⟨none, by unfold t_law_hull letO; rfl⟩
    | cons a r => exact ⟨_, hull_eq a r⟩
  obtain ⟨o2, ho2⟩ : ∃ o, t_law_hull (places.map one) = some o := by
    cases places with
    | nil => exact ⟨none, by unfold t_law_hull letO; rfl⟩
    | cons a r => exact ⟨_, hull_eq (one a) (r.map one)⟩
  have e1 : eqDG (eL (e4 eI eI eI eI) rects) (eL (e4 eI eI eI eI) rects) = some true := eq_self (n := 3) (fun e he => by
    obtain ⟨q, _, rfl⟩ := List.mem_map.mp he
    intro x hx
    simp at hx
    rcases hx with rfl | rfl | rfl | rfl <;> exact trivial) (by decide)
  have e2 : eqDG (eL ePl places) (eL ePl places) = some true := eq_self (n := 5) (fun e he => by
    obtain ⟨q, hq, rfl⟩ := List.mem_map.mp he
    intro x hx
    rcases List.mem_cons.mp hx with rfl | hx
    · exact trivial
    · rcases List.mem_cons.mp hx with rfl | hx
      · exact trivial
      · exact h3 q hq x hx) (by decide)
  rw [cap_ok (by omega), Option.bind_some, mapO_some (f := u_law_arounds_1) (g := one) (fun q _ => by unfold u_law_arounds_1 one; rfl), Option.bind_some, aroundL_eq rects h1, ho, Option.bind_some, Option.bind_some, same_yes (okD_o4 o), Option.bind_some, if_neg (by decide), around_eq rects h1, ho, Option.bind_some, Option.bind_some, same_yes (okD_o4 o), Option.bind_some, Option.bind_some, if_neg (by decide), placesL_eq places h2, ho2, Option.bind_some, Option.bind_some, same_yes (okD_o4 o2), Option.bind_some, if_neg (by decide), places_eq places h2, ho2, Option.bind_some, Option.bind_some, same_yes (okD_o4 o2), Option.bind_some, if_neg (by decide), e1, Option.bind_some, if_pos rfl, e2, Option.bind_some, Option.bind_some]

/-! numbers of any size -/
def SZ (z : Int) : Prop := z.natAbs.log2 ≤ 1048576
theorem sz_small {z : Int} (h : z.natAbs < 2 ^ 64) : SZ z := by
  unfold SZ
  by_cases h0 : z.natAbs = 0
  · rw [h0]; decide
  · have := (Nat.log2_lt h0).mpr h
    omega
theorem sz_up {z : Int} (h : SZ z) : (1 + absT z).natAbs.log2 ≤ 1048577 := by
  unfold SZ at h
  have e : (1 + absT z).natAbs = z.natAbs + 1 := by unfold absT; split <;> omega
  rw [e]
  have h1 : z.natAbs < 2 ^ (z.natAbs.log2 + 1) := Nat.lt_log2_self
  have h2 : (z.natAbs + 1).log2 < z.natAbs.log2 + 2 := by
    refine (Nat.log2_lt (by omega)).mpr ?_
    rw [Nat.pow_succ]
    have : 0 < 2 ^ (z.natAbs.log2 + 1) := Nat.pow_pos (by decide)
    omega
  omega
theorem mul_far {a b : Int} (h : a.natAbs.log2 ≤ 1048577) (hb : b.natAbs < 2 ^ 64) : mulG a b = some (a * b) := by
  have h2 := sz_small hb
  unfold SZ at h2
  unfold mulG
  have e : mulOk a b = true := decide_eq_true (by omega)
  rw [if_pos e]
theorem numbers_ok {script : List Int} (hs : ∀ z ∈ script, SZ z) {a many seed : Nat} (hm : many ≤ 1000) (hsd : seed ≤ 1000) (ha : a ≤ 1000) (small : Bool) : ∃ r, t_law_numbers script (a : Int) (many : Int) (seed : Int) small = some r ∧ r.length = many ∧ ∀ z ∈ r, SZ z := by
  unfold t_law_numbers
  obtain ⟨d, d1, d2⟩ := draws_ok script (a := seed) (count := many) hsd hm
  rw [d1, Option.bind_some, rng1_nat (by omega), Option.bind_some]
  obtain ⟨s, q1, q2, q3⟩ := fold_rng (b := u_law_numbers_1 d (a : Int) script small) (n := many) (lo := 0) (fun k s => s.length = k ∧ ∀ z ∈ s, SZ z) (fun k s hk ⟨h1, h2⟩ => by
    unfold u_law_numbers_1 letO
    obtain ⟨x, x1, _⟩ := at_ok (xs := d) (i := 0 + (k : Int)) (by omega) (by omega)
    rw [x1, Option.bind_some]
    dsimp only
    have m16 : ∀ y : Int, SZ (y % 16 - 6) := fun y => sz_small (by omega)
    obtain ⟨y, y1, y2⟩ : ∃ y, (if (decide ((a : Int) + (0 + (k : Int)) < (script.length : Int))) = true then (atI script ((a : Int) + (0 + (k : Int)))).bind fun it8 => some it8 else some (x % 16 - 6)) = some y ∧ SZ y := by
      by_cases hl : (a : Int) + (0 + (k : Int)) < (script.length : Int)
      · rw [if_pos (decide_eq_true hl)]
        obtain ⟨z, z1, z2⟩ := at_ok (xs := script) (i := (a : Int) + (0 + (k : Int))) (by omega) hl
        exact ⟨z, by rw [z1]; rfl, hs z z2⟩
      · rw [if_neg (by rw [decide_eq_true_eq]; exact hl)]
        exact ⟨_, rfl, m16 x⟩
    rw [y1, Option.bind_some]
    obtain ⟨w, w1, w2⟩ : ∃ w, (if small = true then some (y % 16 - 6) else some y) = some w ∧ SZ w := by
      split
      · exact ⟨_, rfl, m16 y⟩
      · exact ⟨_, rfl, y2⟩
    rw [w1, Option.bind_some, TL.app_ok (by omega), Option.bind_some]
    refine ⟨_, rfl, by simp [h1], fun z hz => ?_⟩
    rcases List.mem_append.mp hz with hz | hz
    · exact h2 z hz
    · rw [List.mem_singleton.mp hz]; exact w2) (s := []) ⟨rfl, fun z hz => by cases hz⟩
  rw [q1, Option.bind_some]
  exact ⟨s, rfl, q2, q3⟩
theorem comb_ok {numbers : List Int} (hl : 7 ≤ numbers.length) (hz : ∀ z ∈ numbers, SZ z) : ∃ r, t_law_comb numbers = some r ∧ r.length ≤ 41 := by
  unfold t_law_comb letO
  obtain ⟨a, a1, _⟩ := at_ok (xs := numbers) (i := 2) (by omega) (by omega)
  obtain ⟨b, b1, _⟩ := at_ok (xs := numbers) (i := 3) (by omega) (by omega)
  obtain ⟨c, c1, _⟩ := at_ok (xs := numbers) (i := 4) (by omega) (by omega)
  obtain ⟨d, d1, d2⟩ := at_ok (xs := numbers) (i := 5) (by omega) (by omega)
  obtain ⟨e, e1, _⟩ := at_ok (xs := numbers) (i := 6) (by omega) (by omega)
  obtain ⟨f, f1, _⟩ := at_ok (xs := numbers) (i := 0) (by omega) (by omega)
  obtain ⟨g, g1, _⟩ := at_ok (xs := numbers) (i := 1) (by omega) (by omega)
  rw [a1, Option.bind_some]
  dsimp only
  rw [b1]
  dsimp only [Option.bind_some]
  rw [c1, Option.bind_some, rng1_n (by omega) (by omega), Option.bind_some]
  obtain ⟨s, q1, q2⟩ := fold_rng (b := u_law_comb_1 numbers (1 + absT a) (1 + absT b)) (n := (8 + c % 33).toNat) (lo := 0) (fun k s => s.length = k) (fun k s hk h1 => by
    unfold u_law_comb_1 letO
    rw [d1, Option.bind_some, mul_far (sz_up (hz d d2)) (by omega), Option.bind_some, e1, Option.bind_some]
    obtain ⟨w, w1⟩ : ∃ w, (if (decide (e % (2 : Int) = (1 : Int))) = true then some (((0 : Int), (1 + absT d) * (0 + (k : Int)))) else some (((1 + absT d) * (0 + (k : Int)), (0 : Int)))) = some w := by
      split
      · exact ⟨_, rfl⟩
      · exact ⟨_, rfl⟩
    rw [w1, Option.bind_some, f1, Option.bind_some, g1]
    dsimp only
    rw [Option.bind_some, TL.app_ok (by omega), Option.bind_some]
    exact ⟨_, rfl, by simp [h1]⟩) (s := []) rfl
  rw [q1, Option.bind_some]
  exact ⟨s, rfl, by omega⟩

/-! the things of a block -/
def Has (qs : List ((Int × Int) × D)) (k : Int × Int) : Prop := ∃ p ∈ qs, p.1 = k
theorem look_has {qs : List ((Int × Int) × D)} {k : Int × Int} (h : Has qs k) : ∃ v, lookG qs k = some v ∧ ∃ p ∈ qs, p.2 = v := by
  obtain ⟨p, h1, h2⟩ := h
  unfold lookG
  cases hf : qs.find? fun p => decide (p.1 = k) with
  | none =>
    have := List.find?_eq_none.mp hf p h1
    simp [h2] at this
  | some q => exact ⟨q.2, rfl, q, List.mem_of_find?_eq_some hf, rfl⟩
theorem put_has (qs : List ((Int × Int) × D)) (k : Int × Int) (v : D) : Has (putA qs k v) k := by
  unfold putA Has
  split
  · rename_i h
    obtain ⟨p, h1, h2⟩ := List.any_eq_true.mp h
    refine ⟨(p.1, v), List.mem_map.mpr ⟨p, h1, ?_⟩, by simpa using h2⟩
    rw [if_pos (by simpa using h2)]
  · exact ⟨(k, v), List.mem_append_right _ (List.mem_singleton.mpr rfl), rfl⟩
theorem put_keep {qs : List ((Int × Int) × D)} {k j : Int × Int} (v : D) (h : Has qs j) : Has (putA qs k v) j := by
  obtain ⟨p, h1, h2⟩ := h
  unfold putA Has
  split
  · by_cases hk : p.1 = k
    · exact ⟨(p.1, v), List.mem_map.mpr ⟨p, h1, by rw [if_pos hk]⟩, h2⟩
    · exact ⟨p, List.mem_map.mpr ⟨p, h1, by rw [if_neg hk]⟩, h2⟩
  · exact ⟨p, List.mem_append_left _ h1, h2⟩
theorem put_vals {qs : List ((Int × Int) × D)} {k : Int × Int} {v : D} {P : D → Prop} (hv : P v) (h : ∀ p ∈ qs, P p.2) : ∀ p ∈ putA qs k v, P p.2 := fun p hp => by
  unfold putA at hp
  split at hp
  · obtain ⟨q, h1, rfl⟩ := List.mem_map.mp hp
    split
    · exact hv
    · exact h q h1
  · rcases List.mem_append.mp hp with hp | hp
    · exact h p hp
    · rw [List.mem_singleton.mp hp]; exact hv
theorem put_len (qs : List ((Int × Int) × D)) (k : Int × Int) (v : D) : (putA qs k v).length ≤ qs.length + 1 := by
  unfold putA
  split
  · rw [List.length_map]; omega
  · rw [List.length_append]; simp

theorem digits_short : ∀ k : Fin 256, decide (((toString (k.val : Int) : String) : Str).length ≤ 100) = true := by decide +kernel
theorem str_ok {k : Nat} (h : k < 256) : ∃ z, strG (k : Int) = some z ∧ z.length ≤ 100 := by
  refine ⟨(toString (k : Int) : String), ?_, of_decide_eq_true (digits_short ⟨k, h⟩)⟩
  unfold strG
  have : ((k : Int).natAbs).log2 < 1920 := by
    have e : (k : Int).natAbs = k := Int.natAbs_natCast k
    rw [e]
    by_cases h0 : k = 0
    · rw [h0]; decide
    · have := (Nat.log2_lt h0).mpr (show k < 2 ^ 8 by omega)
      omega
  rw [if_pos this]
theorem item_ok {mixed : List Int} (hm : mixed.length = 63) {s : List ((Int × Int) × D)} (hs : s.length < 256) (x y : Int) (hv : ∀ p ∈ s, okD 2 p.2) : ∃ s', u_law_things_1 mixed y x s = some s' ∧ s'.length ≤ s.length + 1 ∧ (∀ p ∈ s', okD 2 p.2) ∧ Has s' (x, y) ∧ ∀ j, Has s j → Has s' j := by
  unfold u_law_things_1 letO
  obtain ⟨z, z1, z2⟩ := str_ok hs
  have ct : catSG (Str.ofString "t") z = some (Str.ofString "t" ++ z) := by
    unfold catSG
    rw [if_pos (by have : (Str.ofString "t").length = 1 := by decide +kernel
                   omega)]
  obtain ⟨w, w1, _⟩ := at_ok (xs := mixed) (i := (s.length : Int) % 63) (by omega) (by omega)
  dsimp only
  rw [z1, Option.bind_some, ct, Option.bind_some, w1, Option.bind_some]
  have h6 : 0 ≤ w % 6 ∧ w % 6 < 6 := by omega
  obtain ⟨v, v1, _, v2⟩ := atI_at (xs := [eI (s.length : Int), eS (Str.ofString "t" ++ z), eN (), e4 eI eI eI eI ((0 : Int), (s.length : Int), (0 : Int), (255 : Int)), eI (-(s.length : Int)), eB true]) (i := w % 6) h6.1 (by simpa using h6.2)
  have hv2 : okD 2 v := by
    simp only [List.mem_cons, List.not_mem_nil, or_false] at v2
    rcases v2 with rfl | rfl | rfl | rfl | rfl | rfl
    · exact trivial
    · exact trivial
    · exact trivial
    · refine ⟨by simp, fun e he => ?_⟩
      simp at he
      rcases he with rfl | rfl | rfl | rfl <;> exact trivial
    · exact trivial
    · exact trivial
  rw [v1, Option.bind_some, putD_ok (by omega), Option.bind_some]
  exact ⟨_, rfl, put_len _ _ _, put_vals (P := okD 2) hv2 hv, put_has _ _ _, fun j h => put_keep _ h⟩
theorem row_ok {mixed : List Int} (hm : mixed.length = 63) {rect : Q4} {w : Nat} (hw : (rect.2.2.1 - rect.1).toNat = w) {s : List ((Int × Int) × D)} (hs : s.length + w < 256) (y : Int) (hv : ∀ p ∈ s, okD 2 p.2) : ∃ s', u_law_things_2 mixed rect y s = some s' ∧ s'.length ≤ s.length + w ∧ (∀ p ∈ s', okD 2 p.2) ∧ (∀ x, rect.1 ≤ x → x < rect.2.2.1 → Has s' (x, y)) ∧ ∀ j, Has s j → Has s' j := by
  unfold u_law_things_2
  rw [hw]
  obtain ⟨s', q1, q2, q3, q4, q5⟩ := fold_rng (b := u_law_things_1 mixed y) (n := w) (lo := rect.1) (fun k t => t.length ≤ s.length + k ∧ (∀ p ∈ t, okD 2 p.2) ∧ (∀ x, rect.1 ≤ x → x < rect.1 + k → Has t (x, y)) ∧ ∀ j, Has s j → Has t j) (fun k t hk ⟨h1, h2, h3, h4⟩ => by
    obtain ⟨t', a1, a2, a3, a4, a5⟩ := item_ok hm (s := t) (by omega) (rect.1 + (k : Int)) y h2
    refine ⟨t', a1, by omega, a3, fun x x1 x2 => ?_, fun j hj => a5 j (h4 j hj)⟩
    by_cases hx : x = rect.1 + (k : Int)
    · rw [hx]; exact a4
    · exact a5 _ (h3 x x1 (by omega))) (s := s) ⟨by omega, hv, fun x x1 x2 => by omega, fun j hj => hj⟩
  rw [q1, Option.bind_some]
  exact ⟨s', rfl, q2, q3, fun x x1 x2 => q4 x x1 (by omega), q5⟩
theorem things_ok {mixed : List Int} (hm : mixed.length = 63) {rect : Q4} {w h : Nat} (hw : (rect.2.2.1 - rect.1).toNat = w) (hh : (rect.2.2.2 - rect.2.1).toNat = h) (hs : w * h < 256) : ∃ s, t_law_things mixed rect = some s ∧ (∀ p ∈ s, okD 2 p.2) ∧ ∀ x y, rect.1 ≤ x → x < rect.2.2.1 → rect.2.1 ≤ y → y < rect.2.2.2 → Has s (x, y) := by
  unfold t_law_things
  rw [hh]
  obtain ⟨s, q1, q2, q3, q4⟩ := fold_rng (b := u_law_things_2 mixed rect) (n := h) (lo := rect.2.1) (fun k t => t.length ≤ w * k ∧ (∀ p ∈ t, okD 2 p.2) ∧ ∀ x y, rect.1 ≤ x → x < rect.2.2.1 → rect.2.1 ≤ y → y < rect.2.1 + k → Has t (x, y)) (fun k t hk ⟨h1, h2, h3⟩ => by
    have hb : w * (k + 1) ≤ w * h := Nat.mul_le_mul_left w (by omega)
    have hc : w * (k + 1) = w * k + w := Nat.mul_succ w k
    obtain ⟨t', a1, a2, a3, a4, a5⟩ := row_ok hm hw (s := t) (by omega) (rect.2.1 + (k : Int)) h2
    refine ⟨t', a1, by omega, a3, fun x y x1 x2 y1 y2 => ?_⟩
    by_cases hy : y = rect.2.1 + (k : Int)
    · rw [hy]; exact a4 x x1 x2
    · exact a5 _ (h3 x y x1 x2 y1 (by omega))) (s := ([] : List ((Int × Int) × D))) ⟨Nat.zero_le _, (fun p hp => by cases hp), (fun x y x1 x2 y1 y2 => by omega)⟩
  rw [q1, Option.bind_some]
  exact ⟨s, rfl, q3, fun x y x1 x2 y1 y2 => q4 x y x1 x2 y1 (by omega)⟩

/-! blocks and cuts -/
def cellsOf (th : List ((Int × Int) × D)) (x0 : Int) (w : Nat) (y : Int) : List D := (rngI x0 w).map fun x => (lookG th (x, y)).getD .non
def blockOf (th : List ((Int × Int) × D)) (r : Q4) : List (List D) := (rngI r.2.1 (r.2.2.2 - r.2.1).toNat).map fun y => cellsOf th r.1 (r.2.2.1 - r.1).toNat y
theorem block_eq {th : List ((Int × Int) × D)} {r : Q4} (hw : (r.2.2.1 - r.1).toNat ≤ 1000) (hh : (r.2.2.2 - r.2.1).toNat ≤ 1000) (h : ∀ x y, r.1 ≤ x → x < r.2.2.1 → r.2.1 ≤ y → y < r.2.2.2 → Has th (x, y)) : t_law_block th r = some (blockOf th r) := by
  unfold t_law_block
  obtain ⟨s, q1, q2⟩ := fold_rng (b := u_law_block_2 r th) (n := (r.2.2.2 - r.2.1).toNat) (lo := r.2.1) (fun k s => s = (rngI r.2.1 k).map fun y => cellsOf th r.1 (r.2.2.1 - r.1).toNat y) (fun k s hk hs => by
    unfold u_law_block_2
    have e : mapO (u_law_block_1 th (r.2.1 + (k : Int))) (rngI r.1 (r.2.2.1 - r.1).toNat) = some (cellsOf th r.1 (r.2.2.1 - r.1).toNat (r.2.1 + (k : Int))) := by
      unfold cellsOf
      refine mapO_some fun x hx => ?_
      have m := rngI_mem.mp hx
      obtain ⟨v, v1, _⟩ := look_has (h x (r.2.1 + (k : Int)) m.1 (by omega) (by omega) (by omega))
      unfold u_law_block_1
      rw [v1]
      rfl
    rw [rngI_len, cap_ok (by omega), Option.bind_some, e, Option.bind_some, TL.app_ok (by rw [hs, List.length_map, rngI_len]; omega), Option.bind_some]
    refine ⟨_, rfl, ?_⟩
    rw [hs]
    unfold rngI
    rw [List.range_succ, List.map_append, List.map_append]
    rfl) (s := []) (by rw [rngI_zero]; rfl)
  rw [q1, Option.bind_some, q2]
  rfl
theorem rng_sub (lo : Int) (n a m : Nat) (h : a + m ≤ n) : ((rngI lo n).drop a).take m = rngI (lo + a) m := by
  apply List.ext_getElem?
  intro i
  unfold rngI
  by_cases hi : i < m
  · rw [List.getElem?_take_of_lt hi, List.getElem?_drop, List.getElem?_map, List.getElem?_map, List.getElem?_range (by omega), List.getElem?_range hi]
    simp
    omega
  · rw [List.getElem?_eq_none (by simp; omega), List.getElem?_eq_none (by simp; omega)]

theorem cut_rng {α : Type} (f : Int → α) (lo : Int) (n : Nat) (i j : Int) (h0 : 0 ≤ i) (h1 : i ≤ j) (h2 : j ≤ n) : cutL ((rngI lo n).map f) (some i) (some j) = (rngI (lo + i) (j - i).toNat).map f := by
  have e : ∀ (d : Nat) (z : Int), 0 ≤ z → z ≤ n → HT.sIx n d (some z) = z.toNat := fun d z z0 z1 => by
    unfold HT.sIx
    simp only []
    first
      | (repeat' split) <;> omega
      | omega
  unfold cutL
  rw [List.length_map, rngI_len, e _ i h0 (by omega), e _ j (by omega) h2, ← List.map_drop, ← List.map_take, rng_sub lo n i.toNat (j.toNat - i.toNat) (by omega)]
  rw [show lo + ((i.toNat : Nat) : Int) = lo + i by omega, show j.toNat - i.toNat = (j - i).toNat by omega]
def inR4 (p r : Q4) : Prop := r.1 ≤ p.1 ∧ r.2.1 ≤ p.2.1 ∧ p.2.2.1 ≤ r.2.2.1 ∧ p.2.2.2 ≤ r.2.2.2
theorem cut_eq {th : List ((Int × Int) × D)} {r p : Q4} (hr : okR r) (hp : okR p) (hi : inR4 p r) (hh : (r.2.2.2 - r.2.1).toNat ≤ 1000) : t_cut (blockOf th r) r p = some (blockOf th p) := by
  obtain ⟨rx, ry, rz, rw'⟩ := r
  obtain ⟨px, py, pz, pw⟩ := p
  obtain ⟨r1, r2⟩ := hr
  obtain ⟨p1, p2⟩ := hp
  obtain ⟨i1, i2, i3, i4⟩ := hi
  dsimp only at r1 r2 p1 p2 i1 i2 i3 i4 hh
  unfold t_cut letO blockOf
  dsimp only
  rw [cut_rng _ ry _ (py - ry) (pw - ry) (by omega) (by omega) (by omega), List.length_map, rngI_len, cap_ok (by omega), Option.bind_some, show ry + (py - ry) = py by omega, show pw - ry - (py - ry) = pw - py by omega]
  have e : mapO (u_cut_1 (px, py, pz, pw) (rx, ry)) ((rngI py (pw - py).toNat).map fun y => cellsOf th rx (rz - rx).toNat y) = some ((rngI py (pw - py).toNat).map fun y => cellsOf th px (pz - px).toNat y) := by
    rw [mapO_some (g := fun row => cutL row (some (px - rx)) (some (pz - rx))) (fun q _ => by unfold u_cut_1; rfl), List.map_map]
    congr 1
    apply List.map_congr_left
    intro y _
    show cutL (cellsOf th rx (rz - rx).toNat y) (some (px - rx)) (some (pz - rx)) = cellsOf th px (pz - px).toNat y
    unfold cellsOf
    rw [cut_rng _ rx _ (px - rx) (pz - rx) (by omega) (by omega) (by omega), show rx + (px - rx) = px by omega, show pz - rx - (px - rx) = pz - px by omega]
  rw [e, Option.bind_some]
theorem block_okD {th : List ((Int × Int) × D)} {r : Q4} (hv : ∀ p ∈ th, okD 2 p.2) (hw : (r.2.2.1 - r.1).toNat ≤ 1000) (hh : (r.2.2.2 - r.2.1).toNat ≤ 1000) : okD 4 (eT (eT eD) (blockOf th r)) := by
  refine ⟨by unfold blockOf; rw [List.length_map, List.length_map, rngI_len]; omega, fun e he => ?_⟩
  obtain ⟨row, hrow, rfl⟩ := List.mem_map.mp he
  unfold blockOf at hrow
  obtain ⟨y, _, rfl⟩ := List.mem_map.mp hrow
  refine ⟨by unfold cellsOf; rw [List.length_map, List.length_map, rngI_len]; omega, fun e he => ?_⟩
  obtain ⟨c, hc, rfl⟩ := List.mem_map.mp he
  unfold cellsOf at hc
  obtain ⟨x, _, rfl⟩ := List.mem_map.mp hc
  show okD 2 ((lookG th (x, y)).getD .non)
  cases hl : lookG th (x, y) with
  | none => exact trivial
  | some v =>
    unfold lookG at hl
    obtain ⟨p, p1, p2⟩ := Option.map_eq_some_iff.mp hl
    rw [← p2]
    exact hv p (List.mem_of_find?_eq_some p1)
theorem cuts_ok {th : List ((Int × Int) × D)} {r p i : Q4} (hr : okR r) (hp : okR p) (hi : okR i) (h1 : inR4 p r) (h2 : inR4 i p) (hw : (r.2.2.1 - r.1).toNat ≤ 1000) (hh : (r.2.2.2 - r.2.1).toNat ≤ 1000) (hv : ∀ p ∈ th, okD 2 p.2) (h : ∀ x y, r.1 ≤ x → x < r.2.2.1 → r.2.1 ≤ y → y < r.2.2.2 → Has th (x, y)) : t_law_cuts th r p i = some true := by
  obtain ⟨a1, a2, a3, a4⟩ := h1
  obtain ⟨b1, b2, b3, b4⟩ := h2
  obtain ⟨c1, c2⟩ := hr
  obtain ⟨d1, d2⟩ := hp
  obtain ⟨e1, e2⟩ := hi
  have B1 := block_eq (th := th) (r := r) hw hh h
  have B2 := block_eq (th := th) (r := p) (by omega) (by omega) fun x y x1 x2 y1 y2 => h x y (by omega) (by omega) (by omega) (by omega)
  have B3 := block_eq (th := th) (r := i) (by omega) (by omega) fun x y x1 x2 y1 y2 => h x y (by omega) (by omega) (by omega) (by omega)
  have C1 := cut_eq (th := th) (r := r) (p := p) ⟨c1, c2⟩ ⟨d1, d2⟩ ⟨a1, a2, a3, a4⟩ hh
  have C2 := cut_eq (th := th) (r := r) (p := r) ⟨c1, c2⟩ ⟨c1, c2⟩ ⟨by omega, by omega, by omega, by omega⟩ hh
  have C3 := cut_eq (th := th) (r := p) (p := i) ⟨d1, d2⟩ ⟨e1, e2⟩ ⟨b1, b2, b3, b4⟩ (by omega)
  have C4 := cut_eq (th := th) (r := r) (p := i) ⟨c1, c2⟩ ⟨e1, e2⟩ ⟨by omega, by omega, by omega, by omega⟩ hh
  have O1 := same_yes (block_okD (r := r) hv hw hh)
  have O2 := same_yes (block_okD (th := th) (r := p) hv (by omega) (by omega))
  have O3 := same_yes (block_okD (th := th) (r := i) hv (by omega) (by omega))
  unfold t_law_cuts
  rw [B1, Option.bind_some, C1, Option.bind_some, B2, Option.bind_some, O2, Option.bind_some, if_neg (by decide), C2, Option.bind_some, O1, Option.bind_some, Option.bind_some, if_neg (by decide), B3, Option.bind_some, C3, Option.bind_some, O3, Option.bind_some, if_pos rfl, C4, Option.bind_some, O3, Option.bind_some, Option.bind_some]

/-! the law -/
theorem list6 {xs : List Int} (h : 4 ≤ xs.length) : cutL xs none (some (4 : Int)) = xs.take 4 := by
  unfold cutL
  have e : HT.sIx xs.length xs.length (some (4 : Int)) = 4 := by
    rw [show (4 : Int) = ((4 : Nat) : Int) from rfl, HT.sIx_nat]
    omega
  rw [e, HT.sIx_none]
  rfl
theorem cut_len {xs : List Int} {i j : Nat} (h : i ≤ j) (h2 : j ≤ xs.length) : (cutL xs (some (i : Int)) (some (j : Int))).length = j - i := by
  unfold cutL
  rw [HT.sIx_nat, HT.sIx_nat, List.length_take, List.length_drop]
  omega
theorem cut_len2 {xs : List Int} {i : Nat} (h : i ≤ xs.length) : (cutL xs (some (i : Int)) none).length = xs.length - i := by
  unfold cutL
  rw [HT.sIx_nat, HT.sIx_none, List.length_take, List.length_drop]
  omega
theorem corners_ok {r : List Int} (hr : r.length = 10) {m : Int} (h0 : 0 ≤ m) (h : m ≤ 5) : ∃ cs, mapO (u_law_2 r) (rngI 0 m.toNat) = some cs ∧ cs.length ≤ 5 := by
  obtain ⟨cs, h1, h2, _⟩ := mapO_all (f := u_law_2 r) (fun _ _ => True) (xs := rngI 0 m.toNat) fun a ha => by
    have := rngI_mem.mp ha
    unfold u_law_2
    obtain ⟨x, x1, _⟩ := at_ok (xs := r) (i := 2 * a) (by omega) (by omega)
    obtain ⟨y, y1, _⟩ := at_ok (xs := r) (i := 2 * a + 1) (by omega) (by omega)
    rw [mul_small (by omega) (by omega), Option.bind_some, x1, Option.bind_some, Option.bind_some, y1]
    exact ⟨_, rfl, trivial⟩
  exact ⟨cs, h1, by rw [h2, rngI_len]; omega⟩
theorem places_ok {s : List (Int × Int)} (h : s.length ≤ 1000) : ∃ ps, mapO (u_law_4 s) (rngI 0 s.length) = some ps ∧ ps.length ≤ 1000 ∧ ∀ p ∈ ps, ∀ e ∈ p.2.2, okE 3 e := by
  obtain ⟨ps, h1, h2, h3⟩ := mapO_all (f := u_law_4 s) (fun _ p => ∀ e ∈ p.2.2, okE 3 e) (xs := rngI 0 s.length) fun a ha => by
    have := rngI_mem.mp ha
    unfold u_law_4
    obtain ⟨x, x1, _⟩ := atI_at (xs := s) (i := a) (by omega) (by omega)
    obtain ⟨y, y1, _, y2⟩ := atI_at (xs := [[], [eI (7 : Int)], [eI (0 : Int), e4 eI eI eI eI ((0 : Int), (0 : Int), (0 : Int), (9 : Int))]]) (i := a % 3) (by omega) (by simp; omega)
    have y3 : y.length ≤ 2 ∧ ∀ e ∈ y, okE 3 e := by
      simp only [List.mem_cons, List.not_mem_nil, or_false] at y2
      rcases y2 with rfl | rfl | rfl
      · exact ⟨by simp, fun e he => by cases he⟩
      · refine ⟨by simp, fun e he => ?_⟩
        rw [List.mem_singleton.mp he]; exact trivial
      · refine ⟨by simp, fun e he => ?_⟩
        simp only [List.mem_cons, List.not_mem_nil, or_false] at he
        rcases he with rfl | rfl
        · exact trivial
        · intro e he
          simp at he
          rcases he with rfl | rfl | rfl | rfl <;> exact trivial
    rw [x1, Option.bind_some, y1, Option.bind_some]
    unfold plG
    rw [if_pos (by omega)]
    exact ⟨_, rfl, y3.2⟩
  rw [rngI_len] at h2
  refine ⟨ps, h1, by omega, fun p hp => ?_⟩
  obtain ⟨i, hi⟩ := List.getElem?_of_mem hp
  have hl : i < (rngI 0 s.length).length := by
    have := (List.getElem?_eq_some_iff.mp hi).1
    rw [rngI_len]; omega
  exact h3 i _ p (List.getElem?_eq_getElem hl) hi

theorem law_ok {script : List Int} (hs : ∀ z ∈ script, SZ z) : t_law script = some true := by
  unfold t_law
  obtain ⟨c0, k0⟩ := cell_ok script (k := 0)
  obtain ⟨c1, k1⟩ := cell_ok script (k := 1)
  obtain ⟨c2, k2⟩ := cell_ok script (k := 2)
  obtain ⟨c3, k3⟩ := cell_ok script (k := 3)
  have k0 : t_law_cell script (0 : Int) = some c0 := k0
  have k1 : t_law_cell script (1 : Int) = some c1 := k1
  have k2 : t_law_cell script (2 : Int) = some c2 := k2
  have k3 : t_law_cell script (3 : Int) = some c3 := k3
  rw [k0, k1, k2, k3, Option.bind_some]
  unfold letO
  dsimp only
  generalize (decide ((0 : Int) < ((c0 / (9 : Int)) % (3 : Int)))) = small
  obtain ⟨n1, a1, a2, _⟩ := numbers_ok hs (a := 4) (many := 8) (seed := 0) (by decide) (by decide) (by decide) small
  have a1 : t_law_numbers script (4 : Int) (8 : Int) (0 : Int) small = some n1 := a1
  obtain ⟨pair, b1, b2, b3⟩ := rects_ok (numbers := n1) (m := 2) (by omega) (by decide)
  have b1 : t_law_rects n1 (2 : Int) = some pair := b1
  obtain ⟨a, d1, _, d2⟩ := atI_at (xs := pair) (i := 0) (by omega) (by omega)
  obtain ⟨b0, e1, _, e2⟩ := atI_at (xs := pair) (i := 1) (by omega) (by omega)
  have ha := b3 a d2
  obtain ⟨b, f1, hb⟩ := second_ok ha (b3 b0 e2) (c0 % 9)
  obtain ⟨n2, g1, g2, _⟩ := numbers_ok hs (a := 12) (many := 6) (seed := 1) (by decide) (by decide) (by decide) small
  have g1 : t_law_numbers script (12 : Int) (6 : Int) (1 : Int) small = some n2 := g1
  obtain ⟨n3, h1, h2, h3⟩ := numbers_ok hs (a := 18) (many := 20) (seed := 2) (by decide) (by decide) (by decide) small
  have h1 : t_law_numbers script (18 : Int) (20 : Int) (2 : Int) small = some n3 := h1
  obtain ⟨n4, i1, i2, i3⟩ := numbers_ok hs (a := 38) (many := 10) (seed := 3) (by decide) (by decide) (by decide) small
  have i1 : t_law_numbers script (38 : Int) (10 : Int) (3 : Int) small = some n4 := i1
  obtain ⟨n5, j1, j2, _⟩ := numbers_ok hs (a := 48) (many := 10) (seed := 4) (by decide) (by decide) (by decide) false
  have j1 : t_law_numbers script (48 : Int) (10 : Int) (4 : Int) false = some n5 := j1
  obtain ⟨dr, l1, l2⟩ := draws_ok script (a := 3) (count := 63) (by decide) (by decide)
  have l1 : t_law_draws script (3 : Int) (63 : Int) = some dr := l1
  rw [a1, Option.bind_some, b1, Option.bind_some, d1, Option.bind_some, e1, Option.bind_some, Option.bind_some, f1, Option.bind_some, g1, Option.bind_some, list6 (by omega)]
  have t4 : (n2.take 4).length = 4 := by rw [List.length_take]; omega
  rw [t4, cap_ok (by decide), Option.bind_some, mapO_some (f := u_law_1) (g := absT) (fun z _ => by unfold u_law_1; rfl), Option.bind_some, h1, Option.bind_some, Option.bind_some]
  obtain ⟨rects, m1, m2⟩ : ∃ rects, (if (decide ((c1 % (7 : Int)) < (6 : Int))) = true then (some c1).bind fun r16 => (t_law_rects n3 ((r16 % (7 : Int)))).bind fun r17 => (some r17) else (t_law_comb n3).bind fun r18 => (some r18)) = some rects ∧ rects.length ≤ 1000 := by
    by_cases hc : c1 % 7 < 6
    · rw [if_pos (decide_eq_true hc), Option.bind_some]
      obtain ⟨r, q1, q2, _⟩ := rects_ok (numbers := n3) (m := (c1 % 7).toNat) (by omega) (by omega)
      rw [show (((c1 % 7).toNat : Nat) : Int) = c1 % 7 by omega] at q1
      exact ⟨r, by rw [q1]; rfl, by omega⟩
    · rw [if_neg (by rw [decide_eq_true_eq]; exact hc)]
      obtain ⟨r, q1, q2⟩ := comb_ok (numbers := n3) (by omega) h3
      exact ⟨r, by rw [q1]; rfl, by omega⟩
  rw [m1, Option.bind_some, i1, Option.bind_some, Option.bind_some]
  have hm : 0 ≤ min2T 5 (c2 % 7) ∧ min2T 5 (c2 % 7) ≤ 5 := by unfold min2T; split <;> omega
  obtain ⟨cs, o1, o2⟩ := corners_ok i2 hm.1 hm.2
  rw [rng1_n (by omega) (by omega), Option.bind_some, rngI_len, cap_ok (by omega), Option.bind_some, o1, Option.bind_some, Option.bind_some]
  obtain ⟨corners, p1, p2⟩ : ∃ s, (if (decide ((c2 % (7 : Int)) = (6 : Int))) = true then (t_law_comb n4).bind fun r31 => (capG r31.length).bind fun _ => (mapO u_law_3 r31).bind fun cs33 => some cs33 else some cs) = some s ∧ s.length ≤ 1000 := by
    split
    · obtain ⟨r, q1, q2⟩ := comb_ok (numbers := n4) (by omega) i3
      rw [q1, Option.bind_some, cap_ok (by omega), Option.bind_some, mapO_some (f := u_law_3) (g := fun q => (q.1, q.2.1)) (fun z _ => by unfold u_law_3; rfl)]
      exact ⟨_, rfl, by rw [List.length_map]; omega⟩
    · exact ⟨_, rfl, by omega⟩
  rw [p1, Option.bind_some, rng1_nat (by omega), Option.bind_some, rngI_len, cap_ok (by omega), Option.bind_some]
  obtain ⟨places, q1, q2, q3⟩ := places_ok p2
  rw [q1, Option.bind_some, j1, Option.bind_some, Option.bind_some]
  obtain ⟨w, h, hmost, w1, w2, hw⟩ : ∃ w h : Nat, (if (!(decide ((c3 % (8 : Int)) = (1 : Int)))) = true then ((9 : Int), (7 : Int)) else ((70 : Int), (3 : Int))) = ((w : Int), (h : Int)) ∧ 0 < w ∧ 0 < h ∧ w * h < 256 := by
    split
    · exact ⟨9, 7, rfl, by decide, by decide, by decide⟩
    · exact ⟨70, 3, rfl, by decide, by decide, by decide⟩
  rw [hmost]
  obtain ⟨x, x1, _⟩ := at_ok (xs := n5) (i := 0) (by omega) (by omega)
  obtain ⟨y, y1, _⟩ := at_ok (xs := n5) (i := 1) (by omega) (by omega)
  dsimp only
  rw [x1, Option.bind_some, mod_pos (by omega), Option.bind_some, y1, Option.bind_some, mod_pos (by omega), Option.bind_some]
  have u1 := Int.emod_nonneg x (b := (w : Int)) (by omega)
  have u2 := Int.emod_lt_of_pos x (b := (w : Int)) (by omega)
  have u3 := Int.emod_nonneg y (b := (h : Int)) (by omega)
  have u4 := Int.emod_lt_of_pos y (b := (h : Int)) (by omega)
  generalize hrect : ((a.1, a.2.1, a.1 + 1 + x % (w : Int), a.2.1 + 1 + y % (h : Int)) : Q4) = rect
  have hr : okR rect := by rw [← hrect]; exact ⟨by dsimp only; omega, by dsimp only; omega⟩
  obtain ⟨part, r1, r2, r3, r4, r5, r6⟩ := part_ok hr (numbers := cutL n5 (some ((2 : Nat) : Int)) (some ((6 : Nat) : Int))) (by rw [cut_len (by decide) (by omega)]; decide)
  have r1 : t_law_part rect (cutL n5 (some (2 : Int)) (some (6 : Int))) = some part := r1
  obtain ⟨inner, s1, s2, s3, s4, s5, s6⟩ := part_ok r2 (numbers := cutL n5 (some ((6 : Nat) : Int)) none) (by rw [cut_len2 (by omega)]; omega)
  have s1 : t_law_part part (cutL n5 (some (6 : Int)) none) = some inner := s1
  have dw : (rect.2.2.1 - rect.1).toNat = (1 + x % (w : Int)).toNat := by rw [← hrect]; dsimp only; omega
  have dh : (rect.2.2.2 - rect.2.1).toNat = (1 + y % (h : Int)).toNat := by rw [← hrect]; dsimp only; omega
  have small2 : (rect.2.2.1 - rect.1).toNat * (rect.2.2.2 - rect.2.1).toNat < 256 := by
    rw [dw, dh]
    exact Nat.lt_of_le_of_lt (Nat.mul_le_mul (show (1 + x % (w : Int)).toNat ≤ w by omega) (show (1 + y % (h : Int)).toNat ≤ h by omega)) hw
  obtain ⟨th, t1, t2, t3⟩ := things_ok l2 (rect := rect) rfl rfl small2
  rw [r1, Option.bind_some, l1, Option.bind_some, t1, Option.bind_some]
  have w256 : w < 256 := Nat.lt_of_le_of_lt (Nat.le_mul_of_pos_right w w2) hw
  have h256 : h < 256 := Nat.lt_of_le_of_lt (Nat.le_mul_of_pos_left h w1) hw
  obtain ⟨z4, v1, _⟩ := at_ok (xs := n2) (i := 4) (by omega) (by omega)
  obtain ⟨z5, v2, _⟩ := at_ok (xs := n2) (i := 5) (by omega) (by omega)
  rw [pairs_ok ha hb (four := (n2.take 4).map absT) (by rw [List.length_map]; omega) (fun z hz => by
    obtain ⟨q, _, rfl⟩ := List.mem_map.mp hz
    exact abs_nn q), Option.bind_some, if_neg (by decide), arounds_ok m2 q2 q3, Option.bind_some, if_neg (by decide), v1, Option.bind_some, v2, Option.bind_some, inside_ok ha, Option.bind_some, Option.bind_some, Option.bind_some, if_neg (by decide), Option.bind_some, Option.bind_some, inside_ok hb, Option.bind_some, if_pos rfl, s1, Option.bind_some]
  rw [cuts_ok hr r2 s2 ⟨r3, r4, r5, r6⟩ ⟨s3, s4, s5, s6⟩ (by omega) (by omega) t2 t3, Option.bind_some, Option.bind_some]
theorem law_run (ns : List Int) (_ : ns.length ≤ 63) (hz : ∀ z ∈ ns, Builtin.Int.intBits z ≤ 1048576) : runP N_law.length g_law [.rdl (ns.map D.int)] = some (.ret (.bl true)) := by
  have e : N_law.length = N_law.length := rfl
  exact law_of (law_ok fun z h => by
    have := hz z h
    unfold SZ
    unfold Builtin.Int.intBits at this
    split at this
    · rename_i q
      have : z = 0 := by simpa using q
      rw [this]; decide
    · omega)

theorem ok_law (T : Txt P w K mg) : FnOk P w K mg base (CXX P w) 7 T.f_law T.d_law ["script"] (SpLaw K) := by
  exact fn_law (g := g_law) T.F_law sc_law (fun cdv A outer s H E C hA hr tk => (ss_cons (st_set (fun _ p => ps_set (i := 1) sc_law.nd rfl (by first | exact Or.inl rfl | exact Or.inr rfl) p) (ev_gt (ev_mod (ev_cb vc_int (ea_cons (ev_div (cl_fn (ok_law_cell T) tk (hr.mono (by decide)) (by rfl) T.m_law_cell T.F_law_cell.kp T.b_law_cell (ea_cons (ev_var 0 (pv 0)) (ea_cons ev_int ea_nil))) ev_int) ea_nil) fun _ p => pe_callTy call_int1 (by rfl) T.z_int (by decide +kernel) p) ev_int) ev_int))
      (ss_cons (st_setO (fun _ p => ps_set (i := 2) sc_law.nd rfl (by first | exact Or.inl rfl | exact Or.inr rfl) p) (cl_fnO (ok_law_rects T) tk (hr.mono (by decide)) (by rfl) T.m_law_rects T.F_law_rects.kp T.b_law_rects (ea_cons (cl_fn (ok_law_numbers T) tk (hr.mono (by decide)) (by rfl) T.m_law_numbers T.F_law_numbers.kp T.b_law_numbers (ea_cons (ev_var 0 (pv 0)) (ea_cons ev_int (ea_cons ev_int (ea_cons ev_int (ea_cons (ev_var 1 (pv 1)) ea_nil)))))) (ea_cons ev_int ea_nil))))
      (ss_cons (st_set (fun _ p => ps_set (i := 3) sc_law.nd rfl (by first | exact Or.inl rfl | exact Or.inr rfl) p) (ev_itemN 2 (fun _ _ => rfl) ev_int fun _ _ q => pe_ix ix_seq (pv 2) q (fun _ _ => rfl)))
      (ss_cons (st_set (fun _ p => ps_set (i := 4) sc_law.nd rfl (by first | exact Or.inl rfl | exact Or.inr rfl) p) (cl_fn (ok_law_second T) tk (hr.mono (by decide)) (by rfl) T.m_law_second T.F_law_second.kp T.b_law_second (ea_cons (ev_var 3 (pv 3)) (ea_cons (ev_itemN 2 (fun _ _ => rfl) ev_int fun _ _ q => pe_ix ix_seq (pv 2) q (fun _ _ => rfl)) (ea_cons (ev_mod (ev_cb vc_int (ea_cons (cl_fn (ok_law_cell T) tk (hr.mono (by decide)) (by rfl) T.m_law_cell T.F_law_cell.kp T.b_law_cell (ea_cons (ev_var 0 (pv 0)) (ea_cons ev_int ea_nil))) ea_nil) fun _ p => pe_callTy call_int1 (by rfl) T.z_int (by decide +kernel) p) ev_int) ea_nil)))))
      (ss_cons (st_set (fun _ p => ps_set (i := 5) sc_law.nd rfl (by first | exact Or.inl rfl | exact Or.inr rfl) p) (cl_fn (ok_law_numbers T) tk (hr.mono (by decide)) (by rfl) T.m_law_numbers T.F_law_numbers.kp T.b_law_numbers (ea_cons (ev_var 0 (pv 0)) (ea_cons ev_int (ea_cons ev_int (ea_cons ev_int (ea_cons (ev_var 1 (pv 1)) ea_nil)))))))
      (ss_cons (st_lc (i := 6) (own := [("number", 16)]) rfl sc_law.nd rfl rfl (sw_true rfl rfl rfl (by decide +kernel)) (ei_list (ev_sl sl_list vsl_list (ev_var 5 (pv 5)) eo_none (eo_some ev_int))) (blkOk_by (own := [("number", 16)]) (N := N_law) (sc := defScope s_law) (by decide +kernel)) (fun _ _ _ _ _ => (pg_name (i := 16) sc_law.nd rfl (by first | exact Or.inl rfl | exact Or.inr rfl))) (sg_name (i := 16)) (fun _ _ _ _ _ => pt_nilD) (fun _ _ _ _ _ => (ev_cb vc_abs (ea_cons (ev_var 16 (pv 16)) ea_nil) fun _ p => pe_callB call_abs (by rfl) T.z_abs (by decide +kernel) p)) (by decide) (by decide))
      (ss_cons (st_set (fun _ p => ps_set (i := 7) sc_law.nd rfl (by first | exact Or.inl rfl | exact Or.inr rfl) p) (cl_fn (ok_law_numbers T) tk (hr.mono (by decide)) (by rfl) T.m_law_numbers T.F_law_numbers.kp T.b_law_numbers (ea_cons (ev_var 0 (pv 0)) (ea_cons ev_int (ea_cons ev_int (ea_cons ev_int (ea_cons (ev_var 1 (pv 1)) ea_nil)))))))
      (ss_cons (st_set (fun _ p => ps_set (i := 8) sc_law.nd rfl (by first | exact Or.inl rfl | exact Or.inr rfl) p) (ev_if (te_cmp op_lt (nomark _) (vop_I0 fun _ _ _ => .bl _) (ev_mod (ev_cb vc_int (ea_cons (cl_fn (ok_law_cell T) tk (hr.mono (by decide)) (by rfl) T.m_law_cell T.F_law_cell.kp T.b_law_cell (ea_cons (ev_var 0 (pv 0)) (ea_cons ev_int ea_nil))) ea_nil) fun _ p => pe_callTy call_int1 (by rfl) T.z_int (by decide +kernel) p) ev_int) ev_int) (cl_fnO (ok_law_rects T) tk (hr.mono (by decide)) (by rfl) T.m_law_rects T.F_law_rects.kp T.b_law_rects (ea_cons (ev_var 7 (pv 7)) (ea_cons (ev_mod (ev_cb vc_int (ea_cons (cl_fn (ok_law_cell T) tk (hr.mono (by decide)) (by rfl) T.m_law_cell T.F_law_cell.kp T.b_law_cell (ea_cons (ev_var 0 (pv 0)) (ea_cons ev_int ea_nil))) ea_nil) fun _ p => pe_callTy call_int1 (by rfl) T.z_int (by decide +kernel) p) ev_int) ea_nil))).frz (cl_fnO (ok_law_comb T) tk (hr.mono (by decide)) (by rfl) T.m_law_comb T.F_law_comb.kp T.b_law_comb (ea_cons (ev_var 7 (pv 7)) ea_nil)).frz))
      (ss_cons (st_set (fun _ p => ps_set (i := 7) sc_law.nd rfl (by first | exact Or.inl rfl | exact Or.inr rfl) p) (cl_fn (ok_law_numbers T) tk (hr.mono (by decide)) (by rfl) T.m_law_numbers T.F_law_numbers.kp T.b_law_numbers (ea_cons (ev_var 0 (pv 0)) (ea_cons ev_int (ea_cons ev_int (ea_cons ev_int (ea_cons (ev_var 1 (pv 1)) ea_nil)))))))
      (ss_cons (st_setO (fun _ p => ps_set (i := 9) sc_law.nd rfl (by first | exact Or.inl rfl | exact Or.inr rfl) p) (ev_lc (own := [("k", 17)]) rfl sc_law.nd (ei_range1 (ea_cons (ev_cb vc_min2 (ea_cons ev_int (ea_cons (ev_mod (ev_cb vc_int (ea_cons (cl_fn (ok_law_cell T) tk (hr.mono (by decide)) (by rfl) T.m_law_cell T.F_law_cell.kp T.b_law_cell (ea_cons (ev_var 0 (pv 0)) (ea_cons ev_int ea_nil))) ea_nil) fun _ p => pe_callTy call_int1 (by rfl) T.z_int (by decide +kernel) p) ev_int) ea_nil)) fun _ p => pe_callB (call_min2 rfl) (by rfl) T.z_min (by decide +kernel) p) ea_nil) fun _ p => pi_range1 (by rfl) T.z_range p) (blkOk_by (own := [("k", 17)]) (N := N_law) (sc := defScope s_law) (by decide +kernel)) (fun _ _ _ _ _ => (pg_name (i := 17) sc_law.nd rfl (by first | exact Or.inl rfl | exact Or.inr rfl))) (sg_name (i := 17)) (fun _ _ _ _ _ => pt_nilD) (fun _ _ _ _ _ => (ev_tup (ea_cons (ev_item (fun _ _ => rfl) (ev_var 7 (pv 7)) (ev_mul ev_int (ev_var 17 (pv 17)))) (ea_cons (ev_item (fun _ _ => rfl) (ev_var 7 (pv 7)) (ev_add (ev_mul ev_int (ev_var 17 (pv 17))) ev_int)) ea_nil)))) (by decide) (by decide)))
      (ss_cons (st_post [] [] (st_if (te_cmp op_eq (nomark _) vop_eqS (ev_mod (ev_cb vc_int (ea_cons (cl_fn (ok_law_cell T) tk (hr.mono (by decide)) (by rfl) T.m_law_cell T.F_law_cell.kp T.b_law_cell (ea_cons (ev_var 0 (pv 0)) (ea_cons ev_int ea_nil))) ea_nil) fun _ p => pe_callTy call_int1 (by rfl) T.z_int (by decide +kernel) p) ev_int) ev_int) (ss_one (st_setO (fun _ p => ps_set (i := 9) sc_law.nd rfl (by first | exact Or.inl rfl | exact Or.inr rfl) p) (ev_lc (own := [("one", 18)]) rfl sc_law.nd (ei_list (cl_fnO (ok_law_comb T) tk (hr.mono (by decide)) (by rfl) T.m_law_comb T.F_law_comb.kp T.b_law_comb (ea_cons (ev_var 7 (pv 7)) ea_nil)).frz) (blkOk_by (own := [("one", 18)]) (N := N_law) (sc := defScope s_law) (by decide +kernel)) (fun _ _ _ _ _ => (pg_name (i := 18) sc_law.nd rfl (by first | exact Or.inl rfl | exact Or.inr rfl))) (sg_name (i := 18)) (fun _ _ _ _ _ => pt_nilD) (fun _ _ _ _ _ => (ev_tup (ea_cons (ev_item (fun _ _ => rfl) (ev_var 18 (pv 18)) ev_int) (ea_cons (ev_item (fun _ _ => rfl) (ev_var 18 (pv 18)) ev_int) ea_nil)))) (by decide) (by decide)))) ss_nil))
      (ss_cons (st_lc (i := 10) (own := [("k", 17)]) rfl sc_law.nd rfl rfl (sw_true rfl rfl rfl (by decide +kernel)) (ei_range1 (ea_cons (ev_lenN (i := 9) (pe_callB call_len (by rfl) T.z_len PySem.boot_len (pa_cons (pv 9) pa_nil))) ea_nil) fun _ p => pi_range1 (by rfl) T.z_range p) (blkOk_by (own := [("k", 17)]) (N := N_law) (sc := defScope s_law) (by decide +kernel)) (fun _ _ _ _ _ => (pg_name (i := 17) sc_law.nd rfl (by first | exact Or.inl rfl | exact Or.inr rfl))) (sg_name (i := 17)) (fun _ _ _ _ _ => pt_nilD) (fun _ _ _ _ _ => (ev_op op_catA vop_catT (ev_itemN 9 (fun _ _ => rfl) (ev_var 17 (pv 17)) fun _ _ q => pe_ix ix_seq (pv 9) q (fun _ _ => rfl)) (ev_item (fun _ _ => rfl) (ev_tup (ea_cons (ev_tup ea_nil) (ea_cons (ev_tup (ea_cons ev_int ea_nil)) (ea_cons (ev_tup (ea_cons ev_int (ea_cons (ev_tup (ea_cons ev_int (ea_cons ev_int (ea_cons ev_int (ea_cons ev_int ea_nil))))) ea_nil))) ea_nil)))) (ev_mod (ev_var 17 (pv 17)) ev_int)))) (by decide) (by decide))
      (ss_cons (st_set (fun _ p => ps_set (i := 11) sc_law.nd rfl (by first | exact Or.inl rfl | exact Or.inr rfl) p) (cl_fn (ok_law_numbers T) tk (hr.mono (by decide)) (by rfl) T.m_law_numbers T.F_law_numbers.kp T.b_law_numbers (ea_cons (ev_var 0 (pv 0)) (ea_cons ev_int (ea_cons ev_int (ea_cons ev_int (ea_cons ev_bl ea_nil)))))))
      (ss_cons (st_set (fun _ p => ps_set (i := 12) sc_law.nd rfl (by first | exact Or.inl rfl | exact Or.inr rfl) p) (ev_if (te_cmp op_ne (nomark _) vop_neS (ev_mod (ev_cb vc_int (ea_cons (cl_fn (ok_law_cell T) tk (hr.mono (by decide)) (by rfl) T.m_law_cell T.F_law_cell.kp T.b_law_cell (ea_cons (ev_var 0 (pv 0)) (ea_cons ev_int ea_nil))) ea_nil) fun _ p => pe_callTy call_int1 (by rfl) T.z_int (by decide +kernel) p) ev_int) ev_int) (ev_tup (ea_cons ev_int (ea_cons ev_int ea_nil))) (ev_tup (ea_cons ev_int (ea_cons ev_int ea_nil)))))
      (ss_cons (st_set (fun _ p => ps_set (i := 13) sc_law.nd rfl (by first | exact Or.inl rfl | exact Or.inr rfl) p) (ev_tup (ea_cons (ev_item (fun _ _ => rfl) (ev_var 3 (pv 3)) ev_int) (ea_cons (ev_item (fun _ _ => rfl) (ev_var 3 (pv 3)) ev_int) (ea_cons (ev_add (ev_add (ev_item (fun _ _ => rfl) (ev_var 3 (pv 3)) ev_int) ev_int) (ev_mod (ev_cb vc_int (ea_cons (ev_item (fun _ _ => rfl) (ev_var 11 (pv 11)) ev_int) ea_nil) fun _ p => pe_callTy call_int1 (by rfl) T.z_int (by decide +kernel) p) (ev_item (fun _ _ => rfl) (ev_var 12 (pv 12)) ev_int))) (ea_cons (ev_add (ev_add (ev_item (fun _ _ => rfl) (ev_var 3 (pv 3)) ev_int) ev_int) (ev_mod (ev_cb vc_int (ea_cons (ev_item (fun _ _ => rfl) (ev_var 11 (pv 11)) ev_int) ea_nil) fun _ p => pe_callTy call_int1 (by rfl) T.z_int (by decide +kernel) p) (ev_item (fun _ _ => rfl) (ev_var 12 (pv 12)) ev_int))) ea_nil))))))
      (ss_cons (st_set (fun _ p => ps_set (i := 14) sc_law.nd rfl (by first | exact Or.inl rfl | exact Or.inr rfl) p) (cl_fn (ok_law_part T) tk (hr.mono (by decide)) (by rfl) T.m_law_part T.F_law_part.kp T.b_law_part (ea_cons (ev_var 13 (pv 13)) (ea_cons (ev_sl sl_list vsl_list (ev_var 11 (pv 11)) (eo_some ev_int) (eo_some ev_int)) ea_nil))))
      (ss_cons (st_set (fun _ p => ps_set (i := 15) sc_law.nd rfl (by first | exact Or.inl rfl | exact Or.inr rfl) p) (cl_fn (ok_law_things T) tk (hr.mono (by decide)) (by rfl) T.m_law_things T.F_law_things.kp T.b_law_things (ea_cons (cl_fn (ok_law_draws T) tk (hr.mono (by decide)) (by rfl) T.m_law_draws T.F_law_draws.kp T.b_law_draws (ea_cons (ev_var 0 (pv 0)) (ea_cons ev_int (ea_cons ev_int ea_nil)))) (ea_cons (ev_var 13 (pv 13)) ea_nil))))
      (ss_cons (st_pre [6, 10] (st_if (te_w (tw_or (te_not (te_val (cl_fn (ok_law_pairs T) tk hr (by rfl) T.m_law_pairs T.F_law_pairs.kp T.b_law_pairs (ea_cons (ev_var 3 (pv 3)) (ea_cons (ev_var 4 (pv 4)) (ea_cons (ev_var 6 (pv 6)) ea_nil)))))) (tw_or (te_not (te_val (cl_fn (ok_law_arounds T) tk hr (by rfl) T.m_law_arounds T.F_law_arounds.kp T.b_law_arounds (ea_cons (ev_var 8 (pv 8)) (ea_cons (ev_var 10 (pv 10)) ea_nil))))) (tw_or1 (te_not (te_val (cl_fn (ok_law_inside T) tk hr (by rfl) T.m_law_inside T.F_law_inside.kp T.b_law_inside (ea_cons (ev_var 3 (pv 3)) (ea_cons (ev_item (fun _ _ => rfl) (ev_var 5 (pv 5)) ev_int) (ea_cons (ev_item (fun _ _ => rfl) (ev_var 5 (pv 5)) ev_int) ea_nil)))))))))) (ss_one (st_ret ev_bl)) ss_nil))
      (ss_one (st_ret (ev_and (cl_fn (ok_law_inside T) tk hr (by rfl) T.m_law_inside T.F_law_inside.kp T.b_law_inside (ea_cons (ev_var 4 (pv 4)) (ea_cons (ev_item (fun _ _ => rfl) (ev_var 5 (pv 5)) ev_int) (ea_cons (ev_item (fun _ _ => rfl) (ev_var 5 (pv 5)) ev_int) ea_nil)))) (ev_one (cl_fn (ok_law_cuts T) tk hr (by rfl) T.m_law_cuts T.F_law_cuts.kp T.b_law_cuts (ea_cons (ev_var 15 (pv 15)) (ea_cons (ev_var 13 (pv 13)) (ea_cons (ev_var 14 (pv 14)) (ea_cons (cl_fn (ok_law_part T) tk (hr.mono (by decide)) (by rfl) T.m_law_part T.F_law_part.kp T.b_law_part (ea_cons (ev_var 14 (pv 14)) (ea_cons (ev_sl sl_list vsl_list (ev_var 11 (pv 11)) (eo_some ev_int) eo_none) ea_nil))) ea_nil)))))))))))))))))))))))))))) law_run
end
theorem all_mk {l : PySem.W.OpenLaw} {w : World} {K : PySem.W.Frag} {h : Heap} {mg : Str → Option Value} {fa : Addr} (X : K.In h) (G : h.Ns mainGlobals mg) (hfa : mg "law" = some (.ref fa))
    {f0 : Addr} {od0 an0 : Option Addr} {sl0 : Array (Option Value)} {oc0 kV0 dc0 pm0 cd0 ct0 : Value} (a0 : PySem.W.nsIn K mainGlobals "overlap" = some (some (.ref f0)))
    (l0 : K.lookup f0 = some ⟨oc0, od0, .func (PySem.W.fnOf "overlap" "overlap" (defArgs s_overlap) (defBody s_overlap) (defScope s_overlap) .none kV0 dc0 pm0 an0 cd0 ct0), sl0⟩) (c0 : PySem.W.codeIn K cd0 "overlap" = true)
    {f1 : Addr} {od1 an1 : Option Addr} {sl1 : Array (Option Value)} {oc1 kV1 dc1 pm1 cd1 ct1 : Value} (a1 : PySem.W.nsIn K mainGlobals "widened" = some (some (.ref f1)))
    (l1 : K.lookup f1 = some ⟨oc1, od1, .func (PySem.W.fnOf "widened" "widened" (defArgs s_widened) (defBody s_widened) (defScope s_widened) .none kV1 dc1 pm1 an1 cd1 ct1), sl1⟩) (c1 : PySem.W.codeIn K cd1 "widened" = true)
    {f2 : Addr} {od2 an2 : Option Addr} {sl2 : Array (Option Value)} {oc2 kV2 dc2 pm2 cd2 ct2 : Value} (a2 : PySem.W.nsIn K mainGlobals "around" = some (some (.ref f2)))
    (l2 : K.lookup f2 = some ⟨oc2, od2, .func (PySem.W.fnOf "around" "around" (defArgs s_around) (defBody s_around) (defScope s_around) .none kV2 dc2 pm2 an2 cd2 ct2), sl2⟩) (c2 : PySem.W.codeIn K cd2 "around" = true)
    {f3 : Addr} {od3 an3 : Option Addr} {sl3 : Array (Option Value)} {oc3 kV3 dc3 pm3 cd3 ct3 : Value} (a3 : PySem.W.nsIn K mainGlobals "around_places" = some (some (.ref f3)))
    (l3 : K.lookup f3 = some ⟨oc3, od3, .func (PySem.W.fnOf "around_places" "around_places" (defArgs s_around_places) (defBody s_around_places) (defScope s_around_places) .none kV3 dc3 pm3 an3 cd3 ct3), sl3⟩) (c3 : PySem.W.codeIn K cd3 "around_places" = true)
    {f4 : Addr} {od4 an4 : Option Addr} {sl4 : Array (Option Value)} {oc4 kV4 dc4 pm4 cd4 ct4 : Value} (a4 : PySem.W.nsIn K mainGlobals "holds" = some (some (.ref f4)))
    (l4 : K.lookup f4 = some ⟨oc4, od4, .func (PySem.W.fnOf "holds" "holds" (defArgs s_holds) (defBody s_holds) (defScope s_holds) .none kV4 dc4 pm4 an4 cd4 ct4), sl4⟩) (c4 : PySem.W.codeIn K cd4 "holds" = true)
    {f5 : Addr} {od5 an5 : Option Addr} {sl5 : Array (Option Value)} {oc5 kV5 dc5 pm5 cd5 ct5 : Value} (a5 : PySem.W.nsIn K mainGlobals "cut" = some (some (.ref f5)))
    (l5 : K.lookup f5 = some ⟨oc5, od5, .func (PySem.W.fnOf "cut" "cut" (defArgs s_cut) (defBody s_cut) (defScope s_cut) .none kV5 dc5 pm5 an5 cd5 ct5), sl5⟩) (c5 : PySem.W.codeIn K cd5 "cut" = true)
    {f6 : Addr} {od6 an6 : Option Addr} {sl6 : Array (Option Value)} {oc6 kV6 dc6 pm6 cd6 ct6 : Value} (a6 : PySem.W.nsIn K mainGlobals "_law_cell" = some (some (.ref f6)))
    (l6 : K.lookup f6 = some ⟨oc6, od6, .func (PySem.W.fnOf "_law_cell" "_law_cell" (defArgs s_law_cell) (defBody s_law_cell) (defScope s_law_cell) .none kV6 dc6 pm6 an6 cd6 ct6), sl6⟩) (c6 : PySem.W.codeIn K cd6 "_law_cell" = true)
    {f7 : Addr} {od7 an7 : Option Addr} {sl7 : Array (Option Value)} {oc7 kV7 dc7 pm7 cd7 ct7 : Value} (a7 : PySem.W.nsIn K mainGlobals "_law_draws" = some (some (.ref f7)))
    (l7 : K.lookup f7 = some ⟨oc7, od7, .func (PySem.W.fnOf "_law_draws" "_law_draws" (defArgs s_law_draws) (defBody s_law_draws) (defScope s_law_draws) .none kV7 dc7 pm7 an7 cd7 ct7), sl7⟩) (c7 : PySem.W.codeIn K cd7 "_law_draws" = true)
    {f8 : Addr} {od8 an8 : Option Addr} {sl8 : Array (Option Value)} {oc8 kV8 dc8 pm8 cd8 ct8 : Value} (a8 : PySem.W.nsIn K mainGlobals "_law_rects" = some (some (.ref f8)))
    (l8 : K.lookup f8 = some ⟨oc8, od8, .func (PySem.W.fnOf "_law_rects" "_law_rects" (defArgs s_law_rects) (defBody s_law_rects) (defScope s_law_rects) .none kV8 dc8 pm8 an8 cd8 ct8), sl8⟩) (c8 : PySem.W.codeIn K cd8 "_law_rects" = true)
    {f9 : Addr} {od9 an9 : Option Addr} {sl9 : Array (Option Value)} {oc9 kV9 dc9 pm9 cd9 ct9 : Value} (a9 : PySem.W.nsIn K mainGlobals "_law_whole" = some (some (.ref f9)))
    (l9 : K.lookup f9 = some ⟨oc9, od9, .func (PySem.W.fnOf "_law_whole" "_law_whole" (defArgs s_law_whole) (defBody s_law_whole) (defScope s_law_whole) .none kV9 dc9 pm9 an9 cd9 ct9), sl9⟩) (c9 : PySem.W.codeIn K cd9 "_law_whole" = true)
    {f10 : Addr} {od10 an10 : Option Addr} {sl10 : Array (Option Value)} {oc10 kV10 dc10 pm10 cd10 ct10 : Value} (a10 : PySem.W.nsIn K mainGlobals "_law_comb" = some (some (.ref f10)))
    (l10 : K.lookup f10 = some ⟨oc10, od10, .func (PySem.W.fnOf "_law_comb" "_law_comb" (defArgs s_law_comb) (defBody s_law_comb) (defScope s_law_comb) .none kV10 dc10 pm10 an10 cd10 ct10), sl10⟩) (c10 : PySem.W.codeIn K cd10 "_law_comb" = true)
    {f11 : Addr} {od11 an11 : Option Addr} {sl11 : Array (Option Value)} {oc11 kV11 dc11 pm11 cd11 ct11 : Value} (a11 : PySem.W.nsIn K mainGlobals "_law_second" = some (some (.ref f11)))
    (l11 : K.lookup f11 = some ⟨oc11, od11, .func (PySem.W.fnOf "_law_second" "_law_second" (defArgs s_law_second) (defBody s_law_second) (defScope s_law_second) .none kV11 dc11 pm11 an11 cd11 ct11), sl11⟩) (c11 : PySem.W.codeIn K cd11 "_law_second" = true)
    {f12 : Addr} {od12 an12 : Option Addr} {sl12 : Array (Option Value)} {oc12 kV12 dc12 pm12 cd12 ct12 : Value} (a12 : PySem.W.nsIn K mainGlobals "_law_common" = some (some (.ref f12)))
    (l12 : K.lookup f12 = some ⟨oc12, od12, .func (PySem.W.fnOf "_law_common" "_law_common" (defArgs s_law_common) (defBody s_law_common) (defScope s_law_common) .none kV12 dc12 pm12 an12 cd12 ct12), sl12⟩) (c12 : PySem.W.codeIn K cd12 "_law_common" = true)
    {f13 : Addr} {od13 an13 : Option Addr} {sl13 : Array (Option Value)} {oc13 kV13 dc13 pm13 cd13 ct13 : Value} (a13 : PySem.W.nsIn K mainGlobals "_law_hull" = some (some (.ref f13)))
    (l13 : K.lookup f13 = some ⟨oc13, od13, .func (PySem.W.fnOf "_law_hull" "_law_hull" (defArgs s_law_hull) (defBody s_law_hull) (defScope s_law_hull) .none kV13 dc13 pm13 an13 cd13 ct13), sl13⟩) (c13 : PySem.W.codeIn K cd13 "_law_hull" = true)
    {f14 : Addr} {od14 an14 : Option Addr} {sl14 : Array (Option Value)} {oc14 kV14 dc14 pm14 cd14 ct14 : Value} (a14 : PySem.W.nsIn K mainGlobals "_law_things" = some (some (.ref f14)))
    (l14 : K.lookup f14 = some ⟨oc14, od14, .func (PySem.W.fnOf "_law_things" "_law_things" (defArgs s_law_things) (defBody s_law_things) (defScope s_law_things) .none kV14 dc14 pm14 an14 cd14 ct14), sl14⟩) (c14 : PySem.W.codeIn K cd14 "_law_things" = true)
    {f15 : Addr} {od15 an15 : Option Addr} {sl15 : Array (Option Value)} {oc15 kV15 dc15 pm15 cd15 ct15 : Value} (a15 : PySem.W.nsIn K mainGlobals "_law_block" = some (some (.ref f15)))
    (l15 : K.lookup f15 = some ⟨oc15, od15, .func (PySem.W.fnOf "_law_block" "_law_block" (defArgs s_law_block) (defBody s_law_block) (defScope s_law_block) .none kV15 dc15 pm15 an15 cd15 ct15), sl15⟩) (c15 : PySem.W.codeIn K cd15 "_law_block" = true)
    {f16 : Addr} {od16 an16 : Option Addr} {sl16 : Array (Option Value)} {oc16 kV16 dc16 pm16 cd16 ct16 : Value} (a16 : PySem.W.nsIn K mainGlobals "_law_part" = some (some (.ref f16)))
    (l16 : K.lookup f16 = some ⟨oc16, od16, .func (PySem.W.fnOf "_law_part" "_law_part" (defArgs s_law_part) (defBody s_law_part) (defScope s_law_part) .none kV16 dc16 pm16 an16 cd16 ct16), sl16⟩) (c16 : PySem.W.codeIn K cd16 "_law_part" = true)
    {f17 : Addr} {od17 an17 : Option Addr} {sl17 : Array (Option Value)} {oc17 kV17 dc17 pm17 cd17 ct17 : Value} (a17 : PySem.W.nsIn K mainGlobals "_law_numbers" = some (some (.ref f17)))
    (l17 : K.lookup f17 = some ⟨oc17, od17, .func (PySem.W.fnOf "_law_numbers" "_law_numbers" (defArgs s_law_numbers) (defBody s_law_numbers) (defScope s_law_numbers) .none kV17 dc17 pm17 an17 cd17 ct17), sl17⟩) (c17 : PySem.W.codeIn K cd17 "_law_numbers" = true)
    {f18 : Addr} {od18 an18 : Option Addr} {sl18 : Array (Option Value)} {oc18 kV18 dc18 pm18 cd18 ct18 : Value} (a18 : PySem.W.nsIn K mainGlobals "_law_same" = some (some (.ref f18)))
    (l18 : K.lookup f18 = some ⟨oc18, od18, .func (PySem.W.fnOf "_law_same" "_law_same" (defArgs s_law_same) (defBody s_law_same) (defScope s_law_same) .none kV18 dc18 pm18 an18 cd18 ct18), sl18⟩) (c18 : PySem.W.codeIn K cd18 "_law_same" = true)
    {f19 : Addr} {od19 an19 : Option Addr} {sl19 : Array (Option Value)} {oc19 kV19 dc19 pm19 cd19 ct19 : Value} (a19 : PySem.W.nsIn K mainGlobals "_law_pairs" = some (some (.ref f19)))
    (l19 : K.lookup f19 = some ⟨oc19, od19, .func (PySem.W.fnOf "_law_pairs" "_law_pairs" (defArgs s_law_pairs) (defBody s_law_pairs) (defScope s_law_pairs) .none kV19 dc19 pm19 an19 cd19 ct19), sl19⟩) (c19 : PySem.W.codeIn K cd19 "_law_pairs" = true)
    {f20 : Addr} {od20 an20 : Option Addr} {sl20 : Array (Option Value)} {oc20 kV20 dc20 pm20 cd20 ct20 : Value} (a20 : PySem.W.nsIn K mainGlobals "_law_arounds" = some (some (.ref f20)))
    (l20 : K.lookup f20 = some ⟨oc20, od20, .func (PySem.W.fnOf "_law_arounds" "_law_arounds" (defArgs s_law_arounds) (defBody s_law_arounds) (defScope s_law_arounds) .none kV20 dc20 pm20 an20 cd20 ct20), sl20⟩) (c20 : PySem.W.codeIn K cd20 "_law_arounds" = true)
    {f21 : Addr} {od21 an21 : Option Addr} {sl21 : Array (Option Value)} {oc21 kV21 dc21 pm21 cd21 ct21 : Value} (a21 : PySem.W.nsIn K mainGlobals "_law_inside" = some (some (.ref f21)))
    (l21 : K.lookup f21 = some ⟨oc21, od21, .func (PySem.W.fnOf "_law_inside" "_law_inside" (defArgs s_law_inside) (defBody s_law_inside) (defScope s_law_inside) .none kV21 dc21 pm21 an21 cd21 ct21), sl21⟩) (c21 : PySem.W.codeIn K cd21 "_law_inside" = true)
    {f22 : Addr} {od22 an22 : Option Addr} {sl22 : Array (Option Value)} {oc22 kV22 dc22 pm22 cd22 ct22 : Value} (a22 : PySem.W.nsIn K mainGlobals "_law_cuts" = some (some (.ref f22)))
    (l22 : K.lookup f22 = some ⟨oc22, od22, .func (PySem.W.fnOf "_law_cuts" "_law_cuts" (defArgs s_law_cuts) (defBody s_law_cuts) (defScope s_law_cuts) .none kV22 dc22 pm22 an22 cd22 ct22), sl22⟩) (c22 : PySem.W.codeIn K cd22 "_law_cuts" = true)
    {f23 : Addr} {od23 an23 : Option Addr} {sl23 : Array (Option Value)} {oc23 kV23 dc23 pm23 cd23 ct23 : Value} (a23 : PySem.W.nsIn K mainGlobals "law" = some (some (.ref f23)))
    (l23 : K.lookup f23 = some ⟨oc23, od23, .func (PySem.W.fnOf "law" "law" (defArgs s_law) (defBody s_law) (defScope s_law) .none kV23 dc23 pm23 an23 cd23 ct23), sl23⟩) (c23 : PySem.W.codeIn K cd23 "law" = true)
    (z_abs : PySem.W.nsIn K mainGlobals "abs" = some none)
    (z_bool : PySem.W.nsIn K mainGlobals "bool" = some none)
    (z_int : PySem.W.nsIn K mainGlobals "int" = some none)
    (z_isinstance : PySem.W.nsIn K mainGlobals "isinstance" = some none)
    (z_len : PySem.W.nsIn K mainGlobals "len" = some none)
    (z_list : PySem.W.nsIn K mainGlobals "list" = some none)
    (z_max : PySem.W.nsIn K mainGlobals "max" = some none)
    (z_min : PySem.W.nsIn K mainGlobals "min" = some none)
    (z_range : PySem.W.nsIn K mainGlobals "range" = some none)
    (z_sorted : PySem.W.nsIn K mainGlobals "sorted" = some none)
    (z_str : PySem.W.nsIn K mainGlobals "str" = some none)
    (z_tuple : PySem.W.nsIn K mainGlobals "tuple" = some none) :
    ∃ fd : FuncData, (∀ (s : Shared) (v : Value), BindsTo s fd ⟨[v], []⟩ [("script", v)]) ∧ ∀ base : Heap, K.In base → base.Ns mainGlobals mg → FnOk l.prog w K mg base (L2.CX l.prog w) 7 fa fd ["script"] (SpLaw K) := by
  have e := hfa.symm.trans (PySem.W.mg_of X G a23)
  cases e
  have F0 := fun_mk (st := s_overlap) l0 c0 (keep_of l0)
  have b0 := F0.binds (ps := ["a", "b"]) fun _ _ _ _ _ _ us hl => match us, hl with | [_, _], _ => rfl
  have F1 := fun_mk (st := s_widened) l1 c1 (keep_of l1)
  have b1 := F1.binds (ps := ["rect", "left", "up", "right", "down"]) fun _ _ _ _ _ _ us hl => match us, hl with | [_, _, _, _, _], _ => rfl
  have F2 := fun_mk (st := s_around) l2 c2 (keep_of l2)
  have b2 := F2.binds (ps := ["rects"]) fun _ _ _ _ _ _ us hl => match us, hl with | [_], _ => rfl
  have F3 := fun_mk (st := s_around_places) l3 c3 (keep_of l3)
  have b3 := F3.binds (ps := ["places"]) fun _ _ _ _ _ _ us hl => match us, hl with | [_], _ => rfl
  have F4 := fun_mk (st := s_holds) l4 c4 (keep_of l4)
  have b4 := F4.binds (ps := ["rect", "x", "y"]) fun _ _ _ _ _ _ us hl => match us, hl with | [_, _, _], _ => rfl
  have F5 := fun_mk (st := s_cut) l5 c5 (keep_of l5)
  have b5 := F5.binds (ps := ["block", "rect", "part"]) fun _ _ _ _ _ _ us hl => match us, hl with | [_, _, _], _ => rfl
  have F6 := fun_mk (st := s_law_cell) l6 c6 (keep_of l6)
  have b6 := F6.binds (ps := ["script", "k"]) fun _ _ _ _ _ _ us hl => match us, hl with | [_, _], _ => rfl
  have F7 := fun_mk (st := s_law_draws) l7 c7 (keep_of l7)
  have b7 := F7.binds (ps := ["script", "at", "count"]) fun _ _ _ _ _ _ us hl => match us, hl with | [_, _, _], _ => rfl
  have F8 := fun_mk (st := s_law_rects) l8 c8 (keep_of l8)
  have b8 := F8.binds (ps := ["numbers", "many"]) fun _ _ _ _ _ _ us hl => match us, hl with | [_, _], _ => rfl
  have F9 := fun_mk (st := s_law_whole) l9 c9 (keep_of l9)
  have b9 := F9.binds (ps := ["got"]) fun _ _ _ _ _ _ us hl => match us, hl with | [_], _ => rfl
  have F10 := fun_mk (st := s_law_comb) l10 c10 (keep_of l10)
  have b10 := F10.binds (ps := ["numbers"]) fun _ _ _ _ _ _ us hl => match us, hl with | [_], _ => rfl
  have F11 := fun_mk (st := s_law_second) l11 c11 (keep_of l11)
  have b11 := F11.binds (ps := ["a", "b", "way"]) fun _ _ _ _ _ _ us hl => match us, hl with | [_, _, _], _ => rfl
  have F12 := fun_mk (st := s_law_common) l12 c12 (keep_of l12)
  have b12 := F12.binds (ps := ["a", "b"]) fun _ _ _ _ _ _ us hl => match us, hl with | [_, _], _ => rfl
  have F13 := fun_mk (st := s_law_hull) l13 c13 (keep_of l13)
  have b13 := F13.binds (ps := ["rows"]) fun _ _ _ _ _ _ us hl => match us, hl with | [_], _ => rfl
  have F14 := fun_mk (st := s_law_things) l14 c14 (keep_of l14)
  have b14 := F14.binds (ps := ["mixed", "rect"]) fun _ _ _ _ _ _ us hl => match us, hl with | [_, _], _ => rfl
  have F15 := fun_mk (st := s_law_block) l15 c15 (keep_of l15)
  have b15 := F15.binds (ps := ["things", "rect"]) fun _ _ _ _ _ _ us hl => match us, hl with | [_, _], _ => rfl
  have F16 := fun_mk (st := s_law_part) l16 c16 (keep_of l16)
  have b16 := F16.binds (ps := ["rect", "numbers"]) fun _ _ _ _ _ _ us hl => match us, hl with | [_, _], _ => rfl
  have F17 := fun_mk (st := s_law_numbers) l17 c17 (keep_of l17)
  have b17 := F17.binds (ps := ["script", "at", "many", "seed", "small"]) fun _ _ _ _ _ _ us hl => match us, hl with | [_, _, _, _, _], _ => rfl
  have F18 := fun_mk (st := s_law_same) l18 c18 (keep_of l18)
  have b18 := F18.binds (ps := ["got", "due"]) fun _ _ _ _ _ _ us hl => match us, hl with | [_, _], _ => rfl
  have F19 := fun_mk (st := s_law_pairs) l19 c19 (keep_of l19)
  have b19 := F19.binds (ps := ["a", "b", "four"]) fun _ _ _ _ _ _ us hl => match us, hl with | [_, _, _], _ => rfl
  have F20 := fun_mk (st := s_law_arounds) l20 c20 (keep_of l20)
  have b20 := F20.binds (ps := ["rects", "places"]) fun _ _ _ _ _ _ us hl => match us, hl with | [_, _], _ => rfl
  have F21 := fun_mk (st := s_law_inside) l21 c21 (keep_of l21)
  have b21 := F21.binds (ps := ["a", "x", "y"]) fun _ _ _ _ _ _ us hl => match us, hl with | [_, _, _], _ => rfl
  have F22 := fun_mk (st := s_law_cuts) l22 c22 (keep_of l22)
  have b22 := F22.binds (ps := ["things", "rect", "part", "inner"]) fun _ _ _ _ _ _ us hl => match us, hl with | [_, _, _, _], _ => rfl
  have F23 := fun_mk (st := s_law) l23 c23 (keep_of l23)
  have b23 := F23.binds (ps := ["script"]) fun _ _ _ _ _ _ us hl => match us, hl with | [_], _ => rfl
  exact ⟨_, fun s v => .of_eq rfl, fun base _ _ => ok_law { f_overlap := _, d_overlap := _, F_overlap := F0, m_overlap := PySem.W.mg_of X G a0, b_overlap := b0, f_widened := _, d_widened := _, F_widened := F1, m_widened := PySem.W.mg_of X G a1, b_widened := b1, f_around := _, d_around := _, F_around := F2, m_around := PySem.W.mg_of X G a2, b_around := b2, f_around_places := _, d_around_places := _, F_around_places := F3, m_around_places := PySem.W.mg_of X G a3, b_around_places := b3, f_holds := _, d_holds := _, F_holds := F4, m_holds := PySem.W.mg_of X G a4, b_holds := b4, f_cut := _, d_cut := _, F_cut := F5, m_cut := PySem.W.mg_of X G a5, b_cut := b5, f_law_cell := _, d_law_cell := _, F_law_cell := F6, m_law_cell := PySem.W.mg_of X G a6, b_law_cell := b6, f_law_draws := _, d_law_draws := _, F_law_draws := F7, m_law_draws := PySem.W.mg_of X G a7, b_law_draws := b7, f_law_rects := _, d_law_rects := _, F_law_rects := F8, m_law_rects := PySem.W.mg_of X G a8, b_law_rects := b8, f_law_whole := _, d_law_whole := _, F_law_whole := F9, m_law_whole := PySem.W.mg_of X G a9, b_law_whole := b9, f_law_comb := _, d_law_comb := _, F_law_comb := F10, m_law_comb := PySem.W.mg_of X G a10, b_law_comb := b10, f_law_second := _, d_law_second := _, F_law_second := F11, m_law_second := PySem.W.mg_of X G a11, b_law_second := b11, f_law_common := _, d_law_common := _, F_law_common := F12, m_law_common := PySem.W.mg_of X G a12, b_law_common := b12, f_law_hull := _, d_law_hull := _, F_law_hull := F13, m_law_hull := PySem.W.mg_of X G a13, b_law_hull := b13, f_law_things := _, d_law_things := _, F_law_things := F14, m_law_things := PySem.W.mg_of X G a14, b_law_things := b14, f_law_block := _, d_law_block := _, F_law_block := F15, m_law_block := PySem.W.mg_of X G a15, b_law_block := b15, f_law_part := _, d_law_part := _, F_law_part := F16, m_law_part := PySem.W.mg_of X G a16, b_law_part := b16, f_law_numbers := _, d_law_numbers := _, F_law_numbers := F17, m_law_numbers := PySem.W.mg_of X G a17, b_law_numbers := b17, f_law_same := _, d_law_same := _, F_law_same := F18, m_law_same := PySem.W.mg_of X G a18, b_law_same := b18, f_law_pairs := _, d_law_pairs := _, F_law_pairs := F19, m_law_pairs := PySem.W.mg_of X G a19, b_law_pairs := b19, f_law_arounds := _, d_law_arounds := _, F_law_arounds := F20, m_law_arounds := PySem.W.mg_of X G a20, b_law_arounds := b20, f_law_inside := _, d_law_inside := _, F_law_inside := F21, m_law_inside := PySem.W.mg_of X G a21, b_law_inside := b21, f_law_cuts := _, d_law_cuts := _, F_law_cuts := F22, m_law_cuts := PySem.W.mg_of X G a22, b_law_cuts := b22, f_law := _, d_law := _, F_law := F23, m_law := PySem.W.mg_of X G a23, b_law := b23, z_abs := PySem.W.mg_none_of X G z_abs, z_bool := PySem.W.mg_none_of X G z_bool, z_int := PySem.W.mg_none_of X G z_int, z_isinstance := PySem.W.mg_none_of X G z_isinstance, z_len := PySem.W.mg_none_of X G z_len, z_list := PySem.W.mg_none_of X G z_list, z_max := PySem.W.mg_none_of X G z_max, z_min := PySem.W.mg_none_of X G z_min, z_range := PySem.W.mg_none_of X G z_range, z_sorted := PySem.W.mg_none_of X G z_sorted, z_str := PySem.W.mg_none_of X G z_str, z_tuple := PySem.W.mg_none_of X G z_tuple }⟩
end LW
open PySem PySem.W PyProof.Rows
set_option maxRecDepth 100000 in
set_option maxHeartbeats 0 in
theorem PySem.Challenge.cw_easelwork_k07_rects_and_blocks_holds : PySem.Challenge.rw_easelwork_k07_rects_and_blocks.Holds := by
  w_on; o_law; k_head; (case hw => w_witness2)
  k_fill
  refine L2.walk_ofB (l := PySem.Challenge.rw_easelwork_k07_rects_and_blocks) (n := 63) (k := 7) (x := "script") (CX := fun w => L2.CX (PySem.Challenge.rw_easelwork_k07_rects_and_blocks).prog w) (sp := fun w => DL.SpLaw _) rfl (by decide) rfl ⟨rfl, by decide, by decide⟩ (fun w h Y => PySem.W.kIn_of Y) ?F (fun _ _ a ns hl hz _ hS => ⟨a, ns, rfl, hS, hl, hz, fun _ => rfl⟩) (fun w H s e s1 h => LW.cx_no _ w H s e s1 h)
  case F =>
    intro w mg fa h KX G hmg
    refine' LW.all_mk KX G hmg ?a0 ?l0 ?c0 ?a1 ?l1 ?c1 ?a2 ?l2 ?c2 ?a3 ?l3 ?c3 ?a4 ?l4 ?c4 ?a5 ?l5 ?c5 ?a6 ?l6 ?c6 ?a7 ?l7 ?c7 ?a8 ?l8 ?c8 ?a9 ?l9 ?c9 ?a10 ?l10 ?c10 ?a11 ?l11 ?c11 ?a12 ?l12 ?c12 ?a13 ?l13 ?c13 ?a14 ?l14 ?c14 ?a15 ?l15 ?c15 ?a16 ?l16 ?c16 ?a17 ?l17 ?c17 ?a18 ?l18 ?c18 ?a19 ?l19 ?c19 ?a20 ?l20 ?c20 ?a21 ?l21 ?c21 ?a22 ?l22 ?c22 ?a23 ?l23 ?c23 ?z_abs ?z_bool ?z_int ?z_isinstance ?z_len ?z_list ?z_max ?z_min ?z_range ?z_sorted ?z_str ?z_tuple
    (case a0 => k_is); (case l0 => k_is); (case c0 => k_is); (case a1 => k_is); (case l1 => k_is); (case c1 => k_is); (case a2 => k_is); (case l2 => k_is); (case c2 => k_is); (case a3 => k_is); (case l3 => k_is); (case c3 => k_is); (case a4 => k_is); (case l4 => k_is); (case c4 => k_is); (case a5 => k_is); (case l5 => k_is); (case c5 => k_is); (case a6 => k_is); (case l6 => k_is); (case c6 => k_is); (case a7 => k_is); (case l7 => k_is); (case c7 => k_is); (case a8 => k_is); (case l8 => k_is); (case c8 => k_is); (case a9 => k_is); (case l9 => k_is); (case c9 => k_is); (case a10 => k_is); (case l10 => k_is); (case c10 => k_is); (case a11 => k_is); (case l11 => k_is); (case c11 => k_is); (case a12 => k_is); (case l12 => k_is); (case c12 => k_is); (case a13 => k_is); (case l13 => k_is); (case c13 => k_is); (case a14 => k_is); (case l14 => k_is); (case c14 => k_is); (case a15 => k_is); (case l15 => k_is); (case c15 => k_is); (case a16 => k_is); (case l16 => k_is); (case c16 => k_is); (case a17 => k_is); (case l17 => k_is); (case c17 => k_is); (case a18 => k_is); (case l18 => k_is); (case c18 => k_is); (case a19 => k_is); (case l19 => k_is); (case c19 => k_is); (case a20 => k_is); (case l20 => k_is); (case c20 => k_is); (case a21 => k_is); (case l21 => k_is); (case c21 => k_is); (case a22 => k_is); (case l22 => k_is); (case c22 => k_is); (case a23 => k_is); (case l23 => k_is); (case c23 => k_is); (case z_abs => k_is); (case z_bool => k_is); (case z_int => k_is); (case z_isinstance => k_is); (case z_len => k_is); (case z_list => k_is); (case z_max => k_is); (case z_min => k_is); (case z_range => k_is); (case z_sorted => k_is); (case z_str => k_is); (case z_tuple => k_is)
